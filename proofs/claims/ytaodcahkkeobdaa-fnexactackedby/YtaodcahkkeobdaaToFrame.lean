import Derived.Test.YtaodcahkkeobdaaFrame8
namespace Go.Proofs.Ytaodcahkkeobdaa
open Go.RowKit
set_option linter.unusedVariables false

/-- A frame that is being copied: where it was laid, the answer's room, what there is of the copy. -/
structure TfAt (w wx : World) (ins outs : Array Value) : Prop where
  b0 : wx.heap[w.heap.size]? = some (.cells ins 37 (0, 0))
  b1 : wx.heap[w.heap.size + 1]? = some (.cells #[.int .i64 0, .int .i64 0, .int .i64 0, .int .i64 0, .bool false, .slice none 0 0, .slice none 0 0, .slice none 0 0] 27 (0, 0))
  b2 : wx.heap[w.heap.size + 2]? = some (.cells outs 27 (0, 0))
  bel : Below w.heap.size w wx
/-- A frame of one's own: its three lists lie apart. -/
def FOwns (w : World) (base : Nat) (v : Value) (h : F8) : Prop := ∃ d0 d1 d2 : Value, v = .agg #[.int .i64 h.k, .int .i64 h.a, .int .i64 h.b, .int .i64 h.c, .bool h.fin, d0, d1, d2] ∧ w.ownsRow base 5 1 d0 h.d.length (h.d.map (Value.int .u8)) ∧ w.ownsRow base 5 1 d1 h.t.length (h.t.map (Value.int .u8)) ∧ ROwns w base d2 h.r ∧ (∀ k, d1.ownBlock = some k → some k ≠ d0.ownBlock) ∧ (∀ k, d2.ownBlock = some k → some k ≠ d0.ownBlock ∧ some k ≠ d1.ownBlock)
theorem FOwns.row {w : World} {base : Nat} {v : Value} {h : F8} (k : FOwns w base v h) : FRow w v h := by
  obtain ⟨d0, d1, d2, rfl, o0, o1, o2, _⟩ := k
  exact ⟨d0, d1, d2, rfl, row_of_owns o0, row_of_owns o1, o2.row⟩
theorem FOwns.below {w w' : World} {base : Nat} {v : Value} {h : F8} (k : FOwns w base v h) (hb : Below w.heap.size w w') : FOwns w' base v h := by
  obtain ⟨d0, d1, d2, rfl, o0, o1, o2, p⟩ := k
  exact ⟨d0, d1, d2, rfl, owns_below o0 hb, owns_below o1 hb, o2.below hb, p⟩
theorem FOwns.mono {w : World} {base base' : Nat} {v : Value} {h : F8} (k : FOwns w base v h) (hb : base' ≤ base) : FOwns w base' v h := by
  obtain ⟨d0, d1, d2, rfl, o0, o1, o2, p⟩ := k
  exact ⟨d0, d1, d2, rfl, owns_mono o0 hb, owns_mono o1 hb, o2.mono hb, p⟩
theorem TfAt.lt {w wx : World} {ins outs : Array Value} (h : TfAt w wx ins outs) : w.heap.size + 2 < wx.heap.size := (Array.getElem?_eq_some_iff.1 h.b2).1
theorem TfAt.called {w wx w' : World} {ins outs : Array Value} (h : TfAt w wx ins outs) (hb : Below wx.heap.size wx w') : TfAt w w' ins outs :=
  ⟨(hb.block _ (by have := h.lt; omega)).trans h.b0, (hb.block _ (by have := h.lt; omega)).trans h.b1, (hb.block _ h.lt).trans h.b2, h.bel.trans (hb.mono h.bel.size)⟩
theorem TfAt.stored {w wx : World} {ins outs : Array Value} (h : TfAt w wx ins outs) (i : Nat) (r : Value) : TfAt w (wx.setCell ⟨w.heap.size + 2, i, none⟩ r) ins (outs.setIfInBounds i r) :=
  ⟨(bk_other (by omega) i r).trans h.b0, (bk_other (by omega) i r).trans h.b1, bk_set h.b2 i r, h.bel.setCell (by show w.heap.size ≤ w.heap.size + 2; omega) _⟩
theorem tf_new (w : World) (ins outs : Array Value) : TfAt w (((w.alloc (.cells ins 37)).alloc (.cells #[.int .i64 0, .int .i64 0, .int .i64 0, .int .i64 0, .bool false, .slice none 0 0, .slice none 0 0, .slice none 0 0] 27)).alloc (.cells outs 27)) ins outs := by
  obtain ⟨h0, h1, h2⟩ := bk_new3 w (.cells ins 37) (.cells #[.int .i64 0, .int .i64 0, .int .i64 0, .int .i64 0, .bool false, .slice none 0 0, .slice none 0 0, .slice none 0 0] 27) (.cells outs 27)
  exact ⟨h0, h1, h2, (((Below.refl _ _).alloc (Nat.le_refl _) _).alloc (by simp) _).alloc (by simp <;> omega) _⟩
theorem infoFrm : (Try.prog.info? 27).map (·.size) = some 8 := by kernel_rfl
theorem owns_cellF {wx : World} {base g n i : Nat} {u v : Value} {xs : List Value} (ho : wx.ownsRow base 5 1 v n xs) (hb : g < base) : (wx.setCell ⟨g, i, none⟩ u).ownsRow base 5 1 v n xs :=
  (Only.setCell (w := wx) ⟨g, i, none⟩ u).owns ho (fun k hk e => by have := (ho.lt k hk).1; have := Option.some.inj e; simp only at this; omega)
set_option maxRecDepth 20000 in
set_option maxHeartbeats 4000000 in
theorem toFrmO (v : Value) (h : F8) (w : World) (hr : FRow w v h) (hs : h.small 1048576) :
    Calls Try.prog 16 #[v] w fun e w' => ∃ r, e = .returned r ∧ FOwns w' w.heap.size r h ∧ Below w.heap.size w w' := by
  obtain ⟨xk, xa, xb, xc, xf, xd, xt, xr⟩ := h
  obtain ⟨u0, u1, u2, rfl, p0, p1, p2⟩ := hr
  dsimp only at p0 p1 p2 ⊢
  have T0 := tf_new w #[.int .i64 xk, .int .i64 xa, .int .i64 xb, .int .i64 xc, .bool xf, u0, u1, u2] #[.int .i64 xk, .int .i64 xa, .int .i64 xb, .int .i64 xc, .bool xf, .slice none 0 0, .slice none 0 0, .slice none 0 0]
  have HP : Hid _ := And.intro p0 (And.intro p1 (And.intro p2 hs))
  have H0 : Hid _ := T0
  clear p0 p1 p2 hs T0
  go_enter Try.func16, Try.ntmps16
  go_wp2_with fail
  go_at_call 35
  refine (toBytes u0 xd _ (HP.out.1.below (H0.out).bel) (Nat.le_trans HP.out.2.2.2.1 (by decide))).mono ?_
  rintro e w1 ⟨r0, rfl, o0, b0⟩
  obtain ⟨ao0, cp0, hr0⟩ := (row_of_owns o0).form
  subst hr0
  have T1 := (H0.out).called b0
  have h1 : w.heap.size + 2 < w1.heap.size := T1.lt
  have s1_5 : w1.cell? ⟨w.heap.size + 2, 5, none⟩ = some (.slice none 0 0) := by rw [bk_cell T1.b2]; rfl
  have f1_5 : w1.frozen? ⟨w.heap.size + 2, 5, none⟩ = false := bk_free T1.b2 5
  have a1_6 : w1.cell? ⟨w.heap.size, 6, none⟩ = some (u1) := by rw [bk_cell T1.b0]; rfl
  have l1 : w.heap.size + 3 ≤ (((w.alloc (.cells #[.int .i64 xk, .int .i64 xa, .int .i64 xb, .int .i64 xc, .bool xf, u0, u1, u2] 37)).alloc (.cells #[.int .i64 0, .int .i64 0, .int .i64 0, .int .i64 0, .bool false, .slice none 0 0, .slice none 0 0, .slice none 0 0] 27)).alloc (.cells #[.int .i64 xk, .int .i64 xa, .int .i64 xb, .int .i64 xc, .bool xf, .slice none 0 0, .slice none 0 0, .slice none 0 0] 27)).heap.size := by simp
  have H1 : Hid _ := And.intro (T1.stored 5 (.slice ao0 xd.length cp0)) (And.intro o0 b0)
  clear T1 o0 b0
  go_wp2_with fail
  go_at_call 35
  refine (toBytes u1 xt _ (HP.out.2.1.below (H1.out.1).bel) (Nat.le_trans HP.out.2.2.2.2.1 (by decide))).mono ?_
  rintro e w2 ⟨r1, rfl, o1, b1⟩
  obtain ⟨ao1, cp1, hr1⟩ := (row_of_owns o1).form
  subst hr1
  have T2 := (H1.out.1).called b1
  have h2 : w.heap.size + 2 < w2.heap.size := T2.lt
  have s2_6 : w2.cell? ⟨w.heap.size + 2, 6, none⟩ = some (.slice none 0 0) := by rw [bk_cell T2.b2]; rfl
  have f2_6 : w2.frozen? ⟨w.heap.size + 2, 6, none⟩ = false := bk_free T2.b2 6
  have a2_7 : w2.cell? ⟨w.heap.size, 7, none⟩ = some (u2) := by rw [bk_cell T2.b0]; rfl
  have l2 : w.heap.size + 3 ≤ w1.heap.size := h1
  have H2 : Hid _ := And.intro (T2.stored 6 (.slice ao1 xt.length cp1)) (And.intro o1 b1)
  clear T2 o1 b1
  clear s1_5 f1_5 a1_6
  go_wp2_with fail
  go_at_call 7
  refine (toRngs u2 xr _ (HP.out.2.2.1.below (H2.out.1).bel) HP.out.2.2.2.2.2).mono ?_
  rintro e w3 ⟨r2, rfl, o2, b2⟩
  obtain ⟨ao2, cp2, hr2⟩ := (o2.row).form
  subst hr2
  have T3 := (H2.out.1).called b2
  have h3 : w.heap.size + 2 < w3.heap.size := T3.lt
  have s3_7 : w3.cell? ⟨w.heap.size + 2, 7, none⟩ = some (.slice none 0 0) := by rw [bk_cell T3.b2]; rfl
  have f3_7 : w3.frozen? ⟨w.heap.size + 2, 7, none⟩ = false := bk_free T3.b2 7
  have l3 : w.heap.size + 3 ≤ w2.heap.size := h2
  have y0 : w3.cell? ⟨w.heap.size + 2, 0, none⟩ = some (.int .i64 xk) := by rw [bk_cell T3.b2]; rfl
  have y1 : w3.cell? ⟨w.heap.size + 2, 1, none⟩ = some (.int .i64 xa) := by rw [bk_cell T3.b2]; rfl
  have y2 : w3.cell? ⟨w.heap.size + 2, 2, none⟩ = some (.int .i64 xb) := by rw [bk_cell T3.b2]; rfl
  have y3 : w3.cell? ⟨w.heap.size + 2, 3, none⟩ = some (.int .i64 xc) := by rw [bk_cell T3.b2]; rfl
  have y4 : w3.cell? ⟨w.heap.size + 2, 4, none⟩ = some (.bool xf) := by rw [bk_cell T3.b2]; rfl
  have y5 : w3.cell? ⟨w.heap.size + 2, 5, none⟩ = some (.slice ao0 xd.length cp0) := by rw [bk_cell T3.b2]; rfl
  have y6 : w3.cell? ⟨w.heap.size + 2, 6, none⟩ = some (.slice ao1 xt.length cp1) := by rw [bk_cell T3.b2]; rfl
  have z0 : w3.cell? ⟨w.heap.size + 1, 0, none⟩ = some (.int .i64 0) := by rw [bk_cell T3.b1]; rfl
  have g0 : w3.frozen? ⟨w.heap.size + 1, 0, none⟩ = false := bk_free T3.b1 0
  have z1 : w3.cell? ⟨w.heap.size + 1, 1, none⟩ = some (.int .i64 0) := by rw [bk_cell T3.b1]; rfl
  have g1 : w3.frozen? ⟨w.heap.size + 1, 1, none⟩ = false := bk_free T3.b1 1
  have z2 : w3.cell? ⟨w.heap.size + 1, 2, none⟩ = some (.int .i64 0) := by rw [bk_cell T3.b1]; rfl
  have g2 : w3.frozen? ⟨w.heap.size + 1, 2, none⟩ = false := bk_free T3.b1 2
  have z3 : w3.cell? ⟨w.heap.size + 1, 3, none⟩ = some (.int .i64 0) := by rw [bk_cell T3.b1]; rfl
  have g3 : w3.frozen? ⟨w.heap.size + 1, 3, none⟩ = false := bk_free T3.b1 3
  have z4 : w3.cell? ⟨w.heap.size + 1, 4, none⟩ = some (.bool false) := by rw [bk_cell T3.b1]; rfl
  have g4 : w3.frozen? ⟨w.heap.size + 1, 4, none⟩ = false := bk_free T3.b1 4
  have z5 : w3.cell? ⟨w.heap.size + 1, 5, none⟩ = some (.slice none 0 0) := by rw [bk_cell T3.b1]; rfl
  have g5 : w3.frozen? ⟨w.heap.size + 1, 5, none⟩ = false := bk_free T3.b1 5
  have z6 : w3.cell? ⟨w.heap.size + 1, 6, none⟩ = some (.slice none 0 0) := by rw [bk_cell T3.b1]; rfl
  have g6 : w3.frozen? ⟨w.heap.size + 1, 6, none⟩ = false := bk_free T3.b1 6
  have z7 : w3.cell? ⟨w.heap.size + 1, 7, none⟩ = some (.slice none 0 0) := by rw [bk_cell T3.b1]; rfl
  have g7 : w3.frozen? ⟨w.heap.size + 1, 7, none⟩ = false := bk_free T3.b1 7
  have H3 : Hid _ := And.intro (T3.stored 7 (.slice ao2 xr.length cp2)) (And.intro o2 b2)
  clear T3 o2 b2
  clear s2_6 f2_6 a2_7
  go_wp2
  try simp only [Exit.inBlock, Exit.then]
  refine bodyPost_ret (v := .agg #[.int .i64 xk, .int .i64 xa, .int .i64 xb, .int .i64 xc, .bool xf, .slice ao0 xd.length cp0, .slice ao1 xt.length cp1, .slice ao2 xr.length cp2]) ?_ rfl ?_
  · refine results_cell_row (t := 27) rfl _ _ (w.heap.size + 1) _ (fr := (0, 0)) _ rfl ?_ Try.underlying27 rfl infoFrm
    rw [bk_set (bk_set (bk_set (bk_set (bk_set (bk_set (bk_set (bk_set (H3.out.1.b1) 0 _) 1 _) 2 _) 3 _) 4 _) 5 _) 6 _) 7 _]
    rfl
  · have e1 : ∀ (x : World) (a : Addr) (u : Value), (x.setCell a u).heap.size = x.heap.size := fun x a u => by simp [World.setCell]
    have m0 := owns_mono H1.out.2.1 (base' := w.heap.size + 3) l1
    have m1 := owns_mono H2.out.2.1 (base' := w.heap.size + 3) (by rw [e1]; exact l2)
    have m2 := H3.out.2.1.mono (base' := w.heap.size + 3) (by rw [e1]; exact l3)
    have n01 := owns_below (owns_cellF (i := 5) (u := .slice ao0 xd.length cp0) m0 (g := w.heap.size + 2) (by omega)) H2.out.2.2
    have n02 := owns_below (owns_cellF (i := 6) (u := .slice ao1 xt.length cp1) n01 (g := w.heap.size + 2) (by omega)) H3.out.2.2
    have n12 := owns_below (owns_cellF (i := 6) (u := .slice ao1 xt.length cp1) m1 (g := w.heap.size + 2) (by omega)) H3.out.2.2
    have fin : ∀ {n : Nat} {v : Value} {xs : List Value}, w3.ownsRow (w.heap.size + 3) 5 1 v n xs → _ := fun h => owns_mono (owns_cellF (i := 7) (u := .slice ao2 xr.length cp2) (owns_cellF (i := 6) (u := .slice ao1 xt.length cp1) (owns_cellF (i := 5) (u := .slice ao0 xd.length cp0) (owns_cellF (i := 4) (u := .bool xf) (owns_cellF (i := 3) (u := .int .i64 xc) (owns_cellF (i := 2) (u := .int .i64 xb) (owns_cellF (i := 1) (u := .int .i64 xa) (owns_cellF (i := 0) (u := .int .i64 xk) (owns_cellF (i := 7) (u := .slice ao2 xr.length cp2) h (g := w.heap.size + 2) (by omega)) (g := w.heap.size + 1) (by omega)) (g := w.heap.size + 1) (by omega)) (g := w.heap.size + 1) (by omega)) (g := w.heap.size + 1) (by omega)) (g := w.heap.size + 1) (by omega)) (g := w.heap.size + 1) (by omega)) (g := w.heap.size + 1) (by omega)) (g := w.heap.size + 1) (by omega)) (base' := w.heap.size) (by omega)
    have fir : ∀ {v : Value} {R : List (Int × Int)}, ROwns w3 (w.heap.size + 3) v R → _ := fun h => ((ROwns.cell (i := 7) (u := .slice ao2 xr.length cp2) (ROwns.cell (i := 6) (u := .slice ao1 xt.length cp1) (ROwns.cell (i := 5) (u := .slice ao0 xd.length cp0) (ROwns.cell (i := 4) (u := .bool xf) (ROwns.cell (i := 3) (u := .int .i64 xc) (ROwns.cell (i := 2) (u := .int .i64 xb) (ROwns.cell (i := 1) (u := .int .i64 xa) (ROwns.cell (i := 0) (u := .int .i64 xk) (ROwns.cell (i := 7) (u := .slice ao2 xr.length cp2) h (g := w.heap.size + 2) (by omega)) (g := w.heap.size + 1) (by omega)) (g := w.heap.size + 1) (by omega)) (g := w.heap.size + 1) (by omega)) (g := w.heap.size + 1) (by omega)) (g := w.heap.size + 1) (by omega)) (g := w.heap.size + 1) (by omega)) (g := w.heap.size + 1) (by omega)) (g := w.heap.size + 1) (by omega))).mono (base' := w.heap.size) (by omega)
    have p01 : ∀ k, (Value.slice ao1 xt.length cp1).ownBlock = some k → some k ≠ (Value.slice ao0 xd.length cp0).ownBlock := owns_apart H1.out.2.1 H2.out.2.1 (by rw [e1]; exact Nat.le_refl _)
    have p02 : ∀ k, (Value.slice ao2 xr.length cp2).ownBlock = some k → some k ≠ (Value.slice ao0 xd.length cp0).ownBlock ∧ some k ≠ (Value.slice ao1 xt.length cp1).ownBlock := by
      intro k hk
      obtain ⟨zs, hz, _⟩ := H3.out.2.1
      have h2 := (hz.lt k hk).1
      rw [e1] at h2
      have hb := H2.out.2.2.size
      rw [e1] at hb
      exact ⟨fun e => by have := (H1.out.2.1.lt k e.symm).2; omega, fun e => by have := (H2.out.2.1.lt k e.symm).2; omega⟩
    refine ⟨_, rfl, ⟨_, _, _, rfl, fin n02, fin n12, fir m2, p01, p02⟩, ?_⟩
    exact ((((((((H3.out.1.bel.setCell (by simp) _).setCell (by simp) _).setCell (by simp) _).setCell (by simp) _).setCell (by simp) _).setCell (by simp) _).setCell (by simp) _).setCell (by simp) _)
theorem toFrm (v : Value) (h : F8) (w : World) (hr : FRow w v h) (hs : h.small 1048576) :
    Calls Try.prog 16 #[v] w fun e w' => ∃ r, e = .returned r ∧ FRow w' r h ∧ Below w.heap.size w w' :=
  (toFrmO v h w hr hs).mono fun e w' ⟨r, h1, h2, h3⟩ => ⟨r, h1, h2.row, h3⟩
end Go.Proofs.Ytaodcahkkeobdaa
