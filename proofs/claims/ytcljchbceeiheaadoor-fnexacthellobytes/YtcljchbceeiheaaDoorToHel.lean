import Derived.Test.YtcljchbceeiheaaDoorHelP
import Derived.Test.YtcljchbceeiheaaDoorToBytes
import Derived.Test.YtcljchbceeiheaaDoorToInts
import Derived.Test.YtcljchbceeiheaaDoorToPar
import Derived.Test.YtcljchbceeiheaaDoorStrD
import Derived.Test.YtcljchbceeiheaaDoorBlocks
import Derived.Test.YtcljchbceeiheaaDoorStoreE
import Derived.Laws.Rows
import Derived.Laws.CopyRow
namespace Go.Proofs.YtcljchbceeiheaaDoor
open Go.RowKit
set_option linter.unusedVariables false

/-- A store of a struct into a part of its block. -/
theorem wpList_store_partE {P : Program} {ops : Array Oper} {rest : List Oper} {o : Oper} {a : Act} {w : World} {Q : Exit → Act → World → Prop} (hgd : o.guard = none) (ty : TypeId) (x y : Operand) (ho : o.op = .store ty x y)
    (g off n : Nat) (ys : List Value) (hx : a.eval x = .pointer (some ⟨g, off, none⟩)) (hy : a.eval y = .agg ys.toArray)
    (t : TypeId) (xs : Array Value) (hg : w.heap[g]? = some (.cells xs t (0, 0))) (hi : (P.info? ty).map (·.size) = some n) (hn : ys.length = n) (hfit : off + n ≤ xs.size) (h1 : ∀ v ∈ ys, v.oneCell' = true)
    (h : ∀ w', w'.heap[g]? = some (.cells (xs.toList.take off ++ ys ++ xs.toList.drop (off + n)).toArray t (0, 0)) → Only (some g) w w' → wpList P ops Q rest (a.put o.dst undef) w') : wpList P ops Q (o :: rest) a w := by
  have hst := run_storeCells_at (P := P) g off t ys 0 xs w hg (by omega) h1
  refine wpList_plain hgd fun K hK => ?_
  have hrun : (storeVar ty ⟨g, off, none⟩ (.agg ys.toArray)).run P w = .ok () (w.setRow g (xs.toList.take (off + 0) ++ ys ++ xs.toList.drop (off + 0 + ys.length)).toArray) := by
    cases hq : P.info? ty with
    | none => simp [hq] at hi
    | some i =>
      have hs : i.size = n := by simpa [hq] using hi
      simp [storeVar, sizeOf, typeInfo, hq, hs, Value.cells, hn]
      simpa [hn] using hst
  unfold Oper.wp execOp
  simp only [ho, hx, hy, Instr.storeAt, Instr.sureAddr, Sem.run_bind, Sem.run_pure, Result.andThen_ok, hrun]
  refine hK _ _ (h _ ?_ (only_setRowE _ _ _))
  rw [setRow_heap w g _ _ t _ hg]
  simp [hn]
/-- A hello that is being copied: where it was laid, the answer's room, what there is of the copy. -/
structure TeAt (w wx : World) (ins outs : Array Value) : Prop where
  b0 : wx.heap[w.heap.size]? = some (.cells ins 28 (0, 0))
  b1 : wx.heap[w.heap.size + 1]? = some (.cells #[.int .i64 0, .int .i64 0, .slice none 0 0, .slice none 0 0, .slice none 0 0, .int .i64 0, .int .i64 0, .int .i64 0, .int .i64 0, .int .i64 0, .int .i64 0, .int .i64 0, .int .i64 0, .int .i64 0, .bool false, .slice none 0 0, .slice none 0 0, .slice none 0 0] 34 (0, 0))
  b2 : wx.heap[w.heap.size + 2]? = some (.cells outs 34 (0, 0))
  bel : Below w.heap.size w wx
theorem TeAt.lt {w wx : World} {ins outs : Array Value} (h : TeAt w wx ins outs) : w.heap.size + 2 < wx.heap.size := (Array.getElem?_eq_some_iff.1 h.b2).1
theorem TeAt.called {w wx w' : World} {ins outs : Array Value} (h : TeAt w wx ins outs) (hb : Below wx.heap.size wx w') : TeAt w w' ins outs :=
  ⟨(hb.block _ (by have := h.lt; omega)).trans h.b0, (hb.block _ (by have := h.lt; omega)).trans h.b1, (hb.block _ h.lt).trans h.b2, h.bel.trans (hb.mono h.bel.size)⟩
theorem TeAt.stored {w wx : World} {ins outs : Array Value} (h : TeAt w wx ins outs) (i : Nat) (r : Value) : TeAt w (wx.setCell ⟨w.heap.size + 2, i, none⟩ r) ins (outs.setIfInBounds i r) :=
  ⟨(bk_other (by omega) i r).trans h.b0, (bk_other (by omega) i r).trans h.b1, bk_set h.b2 i r, h.bel.setCell (by show w.heap.size ≤ w.heap.size + 2; omega) _⟩
theorem te_new (w : World) (ins outs : Array Value) : TeAt w (((w.alloc (.cells ins 28)).alloc (.cells #[.int .i64 0, .int .i64 0, .slice none 0 0, .slice none 0 0, .slice none 0 0, .int .i64 0, .int .i64 0, .int .i64 0, .int .i64 0, .int .i64 0, .int .i64 0, .int .i64 0, .int .i64 0, .int .i64 0, .bool false, .slice none 0 0, .slice none 0 0, .slice none 0 0] 34)).alloc (.cells outs 34)) ins outs := by
  obtain ⟨h0, h1, h2⟩ := bk_new3 w (.cells ins 28) (.cells #[.int .i64 0, .int .i64 0, .slice none 0 0, .slice none 0 0, .slice none 0 0, .int .i64 0, .int .i64 0, .int .i64 0, .int .i64 0, .int .i64 0, .int .i64 0, .int .i64 0, .int .i64 0, .int .i64 0, .bool false, .slice none 0 0, .slice none 0 0, .slice none 0 0] 34) (.cells outs 34)
  exact ⟨h0, h1, h2, (((Below.refl _ _).alloc (Nat.le_refl _) _).alloc (by simp) _).alloc (by simp <;> omega) _⟩
theorem infoHel : (Tryd.prog.info? 34).map (·.size) = some 18 := by kernel_rfl
theorem chg_setS {S : Nat → Prop} {w w' : World} (h : Chg S w w') (a : Addr) (u : Value) (hs : S a.block) : Chg S w (w'.setCell a u) := h.set a u hs
theorem own_set {wx : World} {base e g n i : Nat} {u v : Value} {xs : List Value} (ho : wx.ownsRow base e 1 v n xs) (hb : g < base) : (wx.setCell ⟨g, i, none⟩ u).ownsRow base e 1 v n xs :=
  (Only.setCell (w := wx) ⟨g, i, none⟩ u).owns ho (fun k hk e => by have := (ho.lt k hk).1; have := Option.some.inj e; simp only at this; omega)
theorem hel_end {w w1 w2 w3 w4 w6 : World} {c0 c1 c2 c3 : Nat} {h : HE} {ao0 ao1 ao2 x3 x4 x5 : Option Addr} {cp0 cp1 cp2 p3 p4 p5 : Nat} {u0 u1 u2 : Value} (k0 : w.heap.size + 3 ≤ c0) (z1 : w.heap.size + 2 < w1.heap.size)
    (o0 : w1.ownsRow c0 5 1 (.slice ao0 h.rnd.length cp0) h.rnd.length (h.rnd.map (Value.int .u8)))
    (k1 : w1.heap.size ≤ c1) (s2 : w1.heap.size ≤ w2.heap.size) (b1 : Below (w1.setCell ⟨w.heap.size + 2, 2, none⟩ u0).heap.size (w1.setCell ⟨w.heap.size + 2, 2, none⟩ u0) w2) (o1 : w2.ownsRow c1 3 1 (.slice ao1 h.vers.length cp1) h.vers.length (h.vers.map (Value.int .i64)))
    (k2 : w2.heap.size ≤ c2) (s3 : w2.heap.size ≤ w3.heap.size) (b2 : Below (w2.setCell ⟨w.heap.size + 2, 3, none⟩ u1).heap.size (w2.setCell ⟨w.heap.size + 2, 3, none⟩ u1) w3) (o2 : w3.ownsRow c2 9 1 (.slice ao2 h.nms.length cp2) h.nms.length (h.nms.map Value.string))
    (k3 : w3.heap.size ≤ c3) (s4 : w3.heap.size ≤ w4.heap.size) (b3 : Below (w3.setCell ⟨w.heap.size + 2, 4, none⟩ u2).heap.size (w3.setCell ⟨w.heap.size + 2, 4, none⟩ u2) w4) (o4 : PPOwns w4 c3 (.agg #[.int .i64 h.par.a0, .int .i64 h.par.a1, .int .i64 h.par.a2, .int .i64 h.par.a3, .int .i64 h.par.a4, .int .i64 h.par.a5, .int .i64 h.par.a6, .int .i64 h.par.a7, .int .i64 h.par.a8, .bool h.par.m, .slice x3 h.par.o.length p3, .slice x4 h.par.t.length p4, .slice x5 h.par.f.length p5]) h.par)
    (cc : Chg (fun k => k = w.heap.size + 1 ∨ k = w.heap.size + 2) w4 w6) :
    HEOwns w6 w.heap.size (.agg #[.int .i64 h.kd, .int .i64 h.vr, .slice ao0 h.rnd.length cp0, .slice ao1 h.vers.length cp1, .slice ao2 h.nms.length cp2, .int .i64 h.par.a0, .int .i64 h.par.a1, .int .i64 h.par.a2, .int .i64 h.par.a3, .int .i64 h.par.a4, .int .i64 h.par.a5, .int .i64 h.par.a6, .int .i64 h.par.a7, .int .i64 h.par.a8, .bool h.par.m, .slice x3 h.par.o.length p3, .slice x4 h.par.t.length p4, .slice x5 h.par.f.length p5]) h := by
  obtain ⟨t3, t4, t5, et, q⟩ := o4
  cases et
  have m0 := owns_mono o0 (base' := w.heap.size + 3) k0
  have m1 := owns_mono o1 (base' := w.heap.size + 3) (by omega)
  have m2 := owns_mono o2 (base' := w.heap.size + 3) (by omega)
  have n0 := owns_below (own_set (i := 4) (u := u2) (owns_below (own_set (i := 3) (u := u1) (owns_below (own_set (i := 2) (u := u0) m0 (g := w.heap.size + 2) (by omega)) b1) (g := w.heap.size + 2) (by omega)) b2) (g := w.heap.size + 2) (by omega)) b3
  have n1 := owns_below (own_set (i := 4) (u := u2) (owns_below (own_set (i := 3) (u := u1) m1 (g := w.heap.size + 2) (by omega)) b2) (g := w.heap.size + 2) (by omega)) b3
  have n2 := owns_below (own_set (i := 4) (u := u2) m2 (g := w.heap.size + 2) (by omega)) b3
  have fin : ∀ {e n : Nat} {v : Value} {xs : List Value}, w4.ownsRow (w.heap.size + 3) e 1 v n xs → w6.ownsRow w.heap.size e 1 v n xs := fun h => owns_mono (cc.owns h (fun k hk e => by have := (h.lt k hk).1; omega)) (by omega)
  have q0 := owns_mono q.o0 (base' := w.heap.size + 3) (by omega)
  have q1 := owns_mono q.o1 (base' := w.heap.size + 3) (by omega)
  have q2 := owns_mono q.o2 (base' := w.heap.size + 3) (by omega)
  refine ⟨_, _, _, _, _, _, rfl, fin n0, fin n1, fin n2, fin q0, fin q1, fin q2, ?_⟩
  have L0 := o0.lt
  have L1 := o1.lt
  have L2 := o2.lt
  have L3 := q.o0.lt
  have L4 := q.o1.lt
  have L5 := q.o2.lt
  refine List.Pairwise.cons ?_ (List.Pairwise.cons ?_ (List.Pairwise.cons ?_ (List.Pairwise.cons ?_ (List.Pairwise.cons ?_ (List.Pairwise.cons ?_ List.Pairwise.nil)))))
  · intro u hu g e1 e2
    have a := L0 g e1
    simp only [List.mem_cons, List.mem_nil_iff, or_false] at hu
    rcases hu with rfl | rfl | rfl | rfl | rfl
    · have := L1 g e2; omega
    · have := L2 g e2; omega
    · have := L3 g e2; omega
    · have := L4 g e2; omega
    · have := L5 g e2; omega
  · intro u hu g e1 e2
    have a := L1 g e1
    simp only [List.mem_cons, List.mem_nil_iff, or_false] at hu
    rcases hu with rfl | rfl | rfl | rfl
    · have := L2 g e2; omega
    · have := L3 g e2; omega
    · have := L4 g e2; omega
    · have := L5 g e2; omega
  · intro u hu g e1 e2
    have a := L2 g e1
    simp only [List.mem_cons, List.mem_nil_iff, or_false] at hu
    rcases hu with rfl | rfl | rfl
    · have := L3 g e2; omega
    · have := L4 g e2; omega
    · have := L5 g e2; omega
  · intro u hu
    simp only [List.mem_cons, List.mem_nil_iff, or_false] at hu
    rcases hu with rfl | rfl
    · exact q.a01
    · exact q.a02
  · intro u hu
    simp only [List.mem_cons, List.mem_nil_iff, or_false] at hu
    subst hu
    exact q.a12
  · intro u hu
    cases hu
set_option maxRecDepth 20000 in
set_option maxHeartbeats 8000000 in
theorem toHel (v : Value) (h : HE) (w : World) (hr : HERow w v h) (hs : h.small 1048576) :
    Calls Tryd.prog 6 #[v] w fun e w' => ∃ r, e = .returned r ∧ HEOwns w' w.heap.size r h ∧ Below w.heap.size w w' := by
  obtain ⟨v0, v1, v2, v3, v4, v5, rfl, r0, r1, r2, r3, r4, r5⟩ := hr
  have PR : PPRow w (.agg #[.int .i64 h.par.a0, .int .i64 h.par.a1, .int .i64 h.par.a2, .int .i64 h.par.a3, .int .i64 h.par.a4, .int .i64 h.par.a5, .int .i64 h.par.a6, .int .i64 h.par.a7, .int .i64 h.par.a8, .bool h.par.m, v3, v4, v5]) h.par := ⟨v3, v4, v5, rfl, r3, r4, r5⟩
  have T0 := te_new w #[.int .i64 h.kd, .int .i64 h.vr, v0, v1, v2, .int .i64 h.par.a0, .int .i64 h.par.a1, .int .i64 h.par.a2, .int .i64 h.par.a3, .int .i64 h.par.a4, .int .i64 h.par.a5, .int .i64 h.par.a6, .int .i64 h.par.a7, .int .i64 h.par.a8, .bool h.par.m, v3, v4, v5] #[.int .i64 h.kd, .int .i64 h.vr, .slice none 0 0, .slice none 0 0, .slice none 0 0, .int .i64 0, .int .i64 0, .int .i64 0, .int .i64 0, .int .i64 0, .int .i64 0, .int .i64 0, .int .i64 0, .int .i64 0, .bool false, .slice none 0 0, .slice none 0 0, .slice none 0 0]
  have HP : Hid _ := And.intro r0 (And.intro r1 (And.intro r2 (And.intro PR hs)))
  have H0 : Hid _ := T0
  have Q0 : w.heap.size + 3 ≤ (((w.alloc (.cells #[.int .i64 h.kd, .int .i64 h.vr, v0, v1, v2, .int .i64 h.par.a0, .int .i64 h.par.a1, .int .i64 h.par.a2, .int .i64 h.par.a3, .int .i64 h.par.a4, .int .i64 h.par.a5, .int .i64 h.par.a6, .int .i64 h.par.a7, .int .i64 h.par.a8, .bool h.par.m, v3, v4, v5] 28)).alloc (.cells #[.int .i64 0, .int .i64 0, .slice none 0 0, .slice none 0 0, .slice none 0 0, .int .i64 0, .int .i64 0, .int .i64 0, .int .i64 0, .int .i64 0, .int .i64 0, .int .i64 0, .int .i64 0, .int .i64 0, .bool false, .slice none 0 0, .slice none 0 0, .slice none 0 0] 34)).alloc (.cells #[.int .i64 h.kd, .int .i64 h.vr, .slice none 0 0, .slice none 0 0, .slice none 0 0, .int .i64 0, .int .i64 0, .int .i64 0, .int .i64 0, .int .i64 0, .int .i64 0, .int .i64 0, .int .i64 0, .int .i64 0, .bool false, .slice none 0 0, .slice none 0 0, .slice none 0 0] 34)).heap.size := by simp
  clear r0 r1 r2 r3 r4 r5 PR hs T0
  go_enter Tryd.func6, Tryd.ntmps6
  go_wp2_with fail
  go_at_call 22
  refine (toBytes v0 h.rnd _ (HP.out.1.below (H0.out).bel) (by have := HP.out.2.2.2.2.1; omega)).mono ?_
  rintro e w1 ⟨q0, rfl, o0, b0⟩
  obtain ⟨ao0, cp0, hr0⟩ := (row_of_owns o0).form
  subst hr0
  have T1 := (H0.out).called b0
  have z1 : w.heap.size + 2 < w1.heap.size := T1.lt
  have s1 : w1.cell? ⟨w.heap.size + 2, 2, none⟩ = some (.slice none 0 0) := by rw [bk_cell T1.b2]; rfl
  have f1 : w1.frozen? ⟨w.heap.size + 2, 2, none⟩ = false := bk_free T1.b2 2
  have n1 : w1.cell? ⟨w.heap.size, 3, none⟩ = some v1 := by rw [bk_cell T1.b0]; rfl
  have H1 : Hid _ := And.intro (T1.stored 2 (.slice ao0 h.rnd.length cp0)) (And.intro o0 b0)
  clear T1 o0 b0
  go_wp2_with fail
  go_at_call 23
  refine (toInts v1 h.vers _ (HP.out.2.1.below (H1.out.1).bel) (by have := HP.out.2.2.2.2.2.1; omega)).mono ?_
  rintro e w2 ⟨q1, rfl, o1, b1⟩
  obtain ⟨ao1, cp1, hr1⟩ := (row_of_owns o1).form
  subst hr1
  have T2 := (H1.out.1).called b1
  have z2 : w.heap.size + 2 < w2.heap.size := T2.lt
  have s2 : w2.cell? ⟨w.heap.size + 2, 3, none⟩ = some (.slice none 0 0) := by rw [bk_cell T2.b2]; rfl
  have f2 : w2.frozen? ⟨w.heap.size + 2, 3, none⟩ = false := bk_free T2.b2 3
  have n2 : w2.cell? ⟨w.heap.size, 4, none⟩ = some v2 := by rw [bk_cell T2.b0]; rfl
  have H2 : Hid _ := And.intro (T2.stored 3 (.slice ao1 h.vers.length cp1)) (And.intro o1 b1)
  clear T2 o1 b1
  clear s1 f1 n1
  go_wp2_with fail
  go_at_call 24
  refine (toStrs v2 h.nms _ (HP.out.2.2.1.below (H2.out.1).bel) HP.out.2.2.2.2.2.2.1).mono ?_
  rintro e w3 ⟨q2, rfl, o2, b2⟩
  obtain ⟨ao2, cp2, hr2⟩ := (trow_of_owns o2).form
  subst hr2
  have T3 := (H2.out.1).called b2
  have z3 : w.heap.size + 2 < w3.heap.size := T3.lt
  have s3 : w3.cell? ⟨w.heap.size + 2, 4, none⟩ = some (.slice none 0 0) := by rw [bk_cell T3.b2]; rfl
  have f3 : w3.frozen? ⟨w.heap.size + 2, 4, none⟩ = false := bk_free T3.b2 4
  have n3_0 : w3.cell? ⟨w.heap.size, 5, none⟩ = some (.int .i64 h.par.a0) := by rw [bk_cell T3.b0]; rfl
  have n3_1 : w3.cell? ⟨w.heap.size, 6, none⟩ = some (.int .i64 h.par.a1) := by rw [bk_cell T3.b0]; rfl
  have n3_2 : w3.cell? ⟨w.heap.size, 7, none⟩ = some (.int .i64 h.par.a2) := by rw [bk_cell T3.b0]; rfl
  have n3_3 : w3.cell? ⟨w.heap.size, 8, none⟩ = some (.int .i64 h.par.a3) := by rw [bk_cell T3.b0]; rfl
  have n3_4 : w3.cell? ⟨w.heap.size, 9, none⟩ = some (.int .i64 h.par.a4) := by rw [bk_cell T3.b0]; rfl
  have n3_5 : w3.cell? ⟨w.heap.size, 10, none⟩ = some (.int .i64 h.par.a5) := by rw [bk_cell T3.b0]; rfl
  have n3_6 : w3.cell? ⟨w.heap.size, 11, none⟩ = some (.int .i64 h.par.a6) := by rw [bk_cell T3.b0]; rfl
  have n3_7 : w3.cell? ⟨w.heap.size, 12, none⟩ = some (.int .i64 h.par.a7) := by rw [bk_cell T3.b0]; rfl
  have n3_8 : w3.cell? ⟨w.heap.size, 13, none⟩ = some (.int .i64 h.par.a8) := by rw [bk_cell T3.b0]; rfl
  have n3_9 : w3.cell? ⟨w.heap.size, 14, none⟩ = some (.bool h.par.m) := by rw [bk_cell T3.b0]; rfl
  have n3_10 : w3.cell? ⟨w.heap.size, 15, none⟩ = some (v3) := by rw [bk_cell T3.b0]; rfl
  have n3_11 : w3.cell? ⟨w.heap.size, 16, none⟩ = some (v4) := by rw [bk_cell T3.b0]; rfl
  have n3_12 : w3.cell? ⟨w.heap.size, 17, none⟩ = some (v5) := by rw [bk_cell T3.b0]; rfl
  have H3 : Hid _ := And.intro (T3.stored 4 (.slice ao2 h.nms.length cp2)) (And.intro o2 b2)
  clear T3 o2 b2
  clear s2 f2 n2
  go_wp2_with fail
  go_at_call 25
  refine (toPar _ h.par _ (HP.out.2.2.2.1.below (H3.out.1).bel) (ppsmall_mono HP.out.2.2.2.2.2.2.2 (by decide))).mono ?_
  rintro e w4 ⟨q4, rfl, o4, b4⟩
  clear s3 f3 n3_0 n3_1 n3_2 n3_3 n3_4 n3_5 n3_6 n3_7 n3_8 n3_9 n3_10 n3_11 n3_12
  obtain ⟨x3, x4, x5, p3, p4, p5, er⟩ := o4.parts
  subst er
  have T4 := (H3.out.1).called b4
  have H4 : Hid _ := And.intro T4 (And.intro o4 b4)
  clear T4 o4 b4
  go_wp2_with (first
    | (refine wpList_store_partE rfl 32 (.tmp 25) (.tmp 24) rfl (w.heap.size + 2) 5 13 [.int .i64 h.par.a0, .int .i64 h.par.a1, .int .i64 h.par.a2, .int .i64 h.par.a3, .int .i64 h.par.a4, .int .i64 h.par.a5, .int .i64 h.par.a6, .int .i64 h.par.a7, .int .i64 h.par.a8, .bool h.par.m, .slice x3 h.par.o.length p3, .slice x4 h.par.t.length p4, .slice x5 h.par.f.length p5] rfl rfl 34 _ H4.out.1.b2 infoPar rfl (by simp) (by intro u hu; simp at hu; rcases hu with rfl | rfl | rfl | rfl | rfl | rfl | rfl | rfl | rfl | rfl | rfl | rfl | rfl <;> rfl) ?_; intro w5 h5 m5; have y0 : w5.cell? ⟨w.heap.size + 2, 0, none⟩ = some (.int .i64 h.kd) := (by rw [bk_cell h5]; rfl); have y1 : w5.cell? ⟨w.heap.size + 2, 1, none⟩ = some (.int .i64 h.vr) := (by rw [bk_cell h5]; rfl); have y2 : w5.cell? ⟨w.heap.size + 2, 2, none⟩ = some (.slice ao0 h.rnd.length cp0) := (by rw [bk_cell h5]; rfl); have y3 : w5.cell? ⟨w.heap.size + 2, 3, none⟩ = some (.slice ao1 h.vers.length cp1) := (by rw [bk_cell h5]; rfl); have y4 : w5.cell? ⟨w.heap.size + 2, 4, none⟩ = some (.slice ao2 h.nms.length cp2) := (by rw [bk_cell h5]; rfl); have y5 : w5.cell? ⟨w.heap.size + 2, 5, none⟩ = some (.int .i64 h.par.a0) := (by rw [bk_cell h5]; rfl); have y6 : w5.cell? ⟨w.heap.size + 2, 6, none⟩ = some (.int .i64 h.par.a1) := (by rw [bk_cell h5]; rfl); have y7 : w5.cell? ⟨w.heap.size + 2, 7, none⟩ = some (.int .i64 h.par.a2) := (by rw [bk_cell h5]; rfl); have y8 : w5.cell? ⟨w.heap.size + 2, 8, none⟩ = some (.int .i64 h.par.a3) := (by rw [bk_cell h5]; rfl); have y9 : w5.cell? ⟨w.heap.size + 2, 9, none⟩ = some (.int .i64 h.par.a4) := (by rw [bk_cell h5]; rfl); have y10 : w5.cell? ⟨w.heap.size + 2, 10, none⟩ = some (.int .i64 h.par.a5) := (by rw [bk_cell h5]; rfl); have y11 : w5.cell? ⟨w.heap.size + 2, 11, none⟩ = some (.int .i64 h.par.a6) := (by rw [bk_cell h5]; rfl); have y12 : w5.cell? ⟨w.heap.size + 2, 12, none⟩ = some (.int .i64 h.par.a7) := (by rw [bk_cell h5]; rfl); have y13 : w5.cell? ⟨w.heap.size + 2, 13, none⟩ = some (.int .i64 h.par.a8) := (by rw [bk_cell h5]; rfl); have y14 : w5.cell? ⟨w.heap.size + 2, 14, none⟩ = some (.bool h.par.m) := (by rw [bk_cell h5]; rfl); have y15 : w5.cell? ⟨w.heap.size + 2, 15, none⟩ = some (.slice x3 h.par.o.length p3) := (by rw [bk_cell h5]; rfl); have y16 : w5.cell? ⟨w.heap.size + 2, 16, none⟩ = some (.slice x4 h.par.t.length p4) := (by rw [bk_cell h5]; rfl); have y17 : w5.cell? ⟨w.heap.size + 2, 17, none⟩ = some (.slice x5 h.par.f.length p5) := (by rw [bk_cell h5]; rfl); have H5 : Hid _ := And.intro h5 (And.intro m5 ((m5.block (w.heap.size + 1) (fun e => by have := Option.some.inj e; omega)).trans H4.out.1.b1)); clear h5 m5)
    | (refine wpList_store_atE rfl 34 (.tmp 2) (.tmp 26) rfl (w.heap.size + 1) _ rfl rfl 34 _ H5.out.2.2 infoHel rfl (by simp [Value.oneCell']) ?_; intro w6 h6 m6))
  clear y0 y1 y2 y3 y4 y5 y6 y7 y8 y9 y10 y11 y12 y13 y14 y15 y16 y17
  try simp only [Exit.inBlock, Exit.then]
  refine bodyPost_ret (v := .agg #[.int .i64 h.kd, .int .i64 h.vr, .slice ao0 h.rnd.length cp0, .slice ao1 h.vers.length cp1, .slice ao2 h.nms.length cp2, .int .i64 h.par.a0, .int .i64 h.par.a1, .int .i64 h.par.a2, .int .i64 h.par.a3, .int .i64 h.par.a4, .int .i64 h.par.a5, .int .i64 h.par.a6, .int .i64 h.par.a7, .int .i64 h.par.a8, .bool h.par.m, .slice x3 h.par.o.length p3, .slice x4 h.par.t.length p4, .slice x5 h.par.f.length p5]) ?_ rfl ?_
  · exact results_cell_row (t := 34) rfl _ _ (w.heap.size + 1) _ (fr := (0, 0)) _ rfl h6 Tryd.underlying34 rfl infoHel
  · have e1 : ∀ (x : World) (a : Addr) (u : Value), (x.setCell a u).heap.size = x.heap.size := fun x a u => by simp [World.setCell]
    have cc : Chg (fun k => k = w.heap.size + 1 ∨ k = w.heap.size + 2) w4 w6 := (Chg.of_only H5.out.2.1 (fun k e => by cases e; exact Or.inr rfl)).trans (Chg.of_only m6 (fun k e => by cases e; exact Or.inl rfl))
    have s2 : w1.heap.size ≤ w2.heap.size := by have := H2.out.2.2.size; rwa [e1] at this
    have s3 : w2.heap.size ≤ w3.heap.size := by have := H3.out.2.2.size; rwa [e1] at this
    have s4 : w3.heap.size ≤ w4.heap.size := by have := H4.out.2.2.size; rwa [e1] at this
    exact ⟨_, rfl, hel_end Q0 z1 H1.out.2.1 (by rw [e1]; exact Nat.le_refl _) s2 H2.out.2.2 H2.out.2.1 (by rw [e1]; exact Nat.le_refl _) s3 H3.out.2.2 H3.out.2.1 (by rw [e1]; exact Nat.le_refl _) s4 H4.out.2.2 H4.out.2.1 cc, H4.out.1.bel.trans (cc.below (by have := H4.out.1.bel.size; omega) (fun k e => by omega))⟩
end Go.Proofs.YtcljchbceeiheaaDoor
