import Derived.Test.YteggfkekgdlecaaGreatDoorHelP
import Derived.Test.YteggfkekgdlecaaGreatDoorEqBytes
import Derived.Test.YteggfkekgdlecaaGreatDoorEqInts
import Derived.Test.YteggfkekgdlecaaGreatDoorEqPar
import Derived.Test.YteggfkekgdlecaaGreatDoorToBytes
import Derived.Test.YteggfkekgdlecaaGreatDoorToInts
import Derived.Test.YteggfkekgdlecaaGreatDoorToPar
import Derived.Test.YteggfkekgdlecaaGreatDoorAg_S
import Derived.Test.YteggfkekgdlecaaGreatDoorBlocks
import Derived.Test.YteggfkekgdlecaaGreatDoorAg_P
import Derived.Laws.Rows
import Derived.Laws.CopyRow
import Derived.Test.YteggfkekgdlecaaGreatDoorHelQ
import Derived.Test.YteggfkekgdlecaaGreatDoorSzHel
import Derived.Deep.CutRange
import Derived.Laws.Tables
namespace Go.Proofs.YteggfkekgdlecaaGreatDoor
open Go.RowKit
set_option linter.unusedVariables false

set_option maxRecDepth 20000 in
set_option maxHeartbeats 2000000 in
theorem eqHel_same (va vb : Value) (h : HE) (w : World) (ha : HERow w va h) (hb : HERow w vb h) (hs : h.small 1048576) :
    Calls Tryz.prog 11 #[va, vb] w fun e w' => e = .returned (.bool true) ∧ Below w.heap.size w w' := by
  obtain ⟨v0, v1, v2, v3, v4, v5, rfl, p0, p1, p2, p3, p4, p5⟩ := ha
  obtain ⟨u0, u1, u2, u3, u4, u5, rfl, q0, q1, q2, q3, q4, q5⟩ := hb
  have W2 : Below w.heap.size w ((w.alloc (.cells #[.int .i64 h.kd, .int .i64 h.vr, v0, v1, v2, .int .i64 h.par.a0, .int .i64 h.par.a1, .int .i64 h.par.a2, .int .i64 h.par.a3, .int .i64 h.par.a4, .int .i64 h.par.a5, .int .i64 h.par.a6, .int .i64 h.par.a7, .int .i64 h.par.a8, .bool h.par.m, v3, v4, v5] 37)).alloc (.cells #[.int .i64 h.kd, .int .i64 h.vr, u0, u1, u2, .int .i64 h.par.a0, .int .i64 h.par.a1, .int .i64 h.par.a2, .int .i64 h.par.a3, .int .i64 h.par.a4, .int .i64 h.par.a5, .int .i64 h.par.a6, .int .i64 h.par.a7, .int .i64 h.par.a8, .bool h.par.m, u3, u4, u5] 37)) := ((Below.refl _ _).alloc (Nat.le_refl _) _).alloc (by simp) _
  have B2 := ((Book.nil w).add (.cells #[.int .i64 h.kd, .int .i64 h.vr, v0, v1, v2, .int .i64 h.par.a0, .int .i64 h.par.a1, .int .i64 h.par.a2, .int .i64 h.par.a3, .int .i64 h.par.a4, .int .i64 h.par.a5, .int .i64 h.par.a6, .int .i64 h.par.a7, .int .i64 h.par.a8, .bool h.par.m, v3, v4, v5] 37)).add (.cells #[.int .i64 h.kd, .int .i64 h.vr, u0, u1, u2, .int .i64 h.par.a0, .int .i64 h.par.a1, .int .i64 h.par.a2, .int .i64 h.par.a3, .int .i64 h.par.a4, .int .i64 h.par.a5, .int .i64 h.par.a6, .int .i64 h.par.a7, .int .i64 h.par.a8, .bool h.par.m, u3, u4, u5] 37)
  have ek : (h.kd != h.kd) = false := by simp
  have ev : (h.vr != h.vr) = false := by simp
  have PA : PPRow w (.agg #[.int .i64 h.par.a0, .int .i64 h.par.a1, .int .i64 h.par.a2, .int .i64 h.par.a3, .int .i64 h.par.a4, .int .i64 h.par.a5, .int .i64 h.par.a6, .int .i64 h.par.a7, .int .i64 h.par.a8, .bool h.par.m, v3, v4, v5]) h.par := ⟨v3, v4, v5, rfl, p3, p4, p5⟩
  have PB : PPRow w (.agg #[.int .i64 h.par.a0, .int .i64 h.par.a1, .int .i64 h.par.a2, .int .i64 h.par.a3, .int .i64 h.par.a4, .int .i64 h.par.a5, .int .i64 h.par.a6, .int .i64 h.par.a7, .int .i64 h.par.a8, .bool h.par.m, u3, u4, u5]) h.par := ⟨u3, u4, u5, rfl, q3, q4, q5⟩
  have HH : Hid _ := And.intro W2 (And.intro B2 (And.intro (And.intro p0 q0) (And.intro (And.intro p1 q1) (And.intro (And.intro p2 q2) (And.intro (And.intro PA PB) hs)))))
  clear W2 B2 p0 p1 p2 p3 p4 p5 q0 q1 q2 q3 q4 q5 PA PB hs
  go_enter Tryz.func11, Tryz.ntmps11
  go_wp2_with fail
  go_at_call 10
  refine (eqBytes_same _ _ h.rnd _ (HH.out.2.2.1.1.below HH.out.1) (HH.out.2.2.1.2.below HH.out.1) (by have := HH.out.2.2.2.2.2.2.1; omega)).mono ?_
  rintro e w0 ⟨rfl, m0, rfl⟩
  go_wp2_with fail
  go_at_call 35
  refine (eqInts_same _ _ h.vers _ ((HH.out.2.2.2.1.1.below HH.out.1).drewN _) ((HH.out.2.2.2.1.2.below HH.out.1).drewN _) (by have := HH.out.2.2.2.2.2.2.2.1; omega)).mono ?_
  rintro e w1 ⟨rfl, m1, rfl⟩
  go_wp2_with fail
  go_at_call 36
  refine (eqStrs_same _ _ h.nms _ (HH.out.2.2.2.2.1.1.below (below_drewN HH.out.1 _)) (HH.out.2.2.2.2.1.2.below (below_drewN HH.out.1 _)) HH.out.2.2.2.2.2.2.2.2.1).mono ?_
  rintro e w2 ⟨rfl, m2, rfl⟩
  go_wp2_with fail
  go_at_call 37
  refine (eqPar_same _ _ h.par _ (HH.out.2.2.2.2.2.1.1.below (below_drewN HH.out.1 _)) (HH.out.2.2.2.2.2.1.2.below (below_drewN HH.out.1 _)) (ppsmall_mono HH.out.2.2.2.2.2.2.2.2.2 (by decide))).mono ?_
  rintro e w3 ⟨rfl, b3⟩
  have HB : Hid _ := And.intro ((below_drewN HH.out.1 (m0 + m1 + m2)).trans (b3.mono (below_drewN HH.out.1 (m0 + m1 + m2)).size)) True.intro
  clear b3
  go_wp2
  go_ret
  exact ⟨rfl, HB.out.1⟩
end Go.Proofs.YteggfkekgdlecaaGreatDoor

namespace Go.Proofs.YteggfkekgdlecaaGreatDoor
open Go.RowKit
set_option linter.unusedVariables false

/-- A store of a struct into a part of its block. -/
theorem wpList_store_partE {P : Program} {ops : Array Oper} {rest : List Oper} {o : Oper} {a : Act} {w : World} {Q : Exit → Act → World → Prop} (hgd : o.guard = none) (ty : TypeId) (x y : Operand) (ho : o.op = .store ty x y)
    (g off n : Nat) (ys : List Value) (hx : a.eval x = .pointer (some ⟨g, off, none⟩)) (hy : a.eval y = .agg ys.toArray)
    (t : TypeId) (xs : Array Value) (hg : w.heap[g]? = some (.cells xs t (0, 0))) (hi : (P.info? ty).map (·.size) = some n) (hn : ys.length = n) (hfit : off + n ≤ xs.size) (h1 : ∀ v ∈ ys, v.oneCell' = true)
    (h : ∀ w', w'.heap[g]? = some (.cells (xs.toList.take off ++ ys ++ xs.toList.drop (off + n)).toArray t (0, 0)) → Only (some g) w w' → wpList P ops Q rest (a.put o.dst undef) w') : wpList P ops Q (o :: rest) a w := by
  have hst := run_storeCells_at (P := P) g off t ys 0 xs w hg (by omega) h1
  refine wpList_plain hgd fun K hK => ?_
  have hrun : (storeVar ty ⟨g, off, none⟩ (.agg ys.toArray)).run P w = .ok () (w.setRow g (xs.toList.take (off + 0) ++ ys ++ xs.toList.drop (off + 0 + ys.length)).toArray) := by
    cases hq : P.info? ty with
    | none => simp [hq] at hi
    | some i =>
      have hs : i.size = n := by simpa [hq] using hi
      simp [storeVar, sizeOf, typeInfo, hq, hs, Value.cells, hn]
      simpa [hn] using hst
  unfold Oper.wp execOp
  simp only [ho, hx, hy, Instr.storeAt, Instr.sureAddr, Sem.run_bind, Sem.run_pure, Result.andThen_ok, hrun]
  refine hK _ _ (h _ ?_ (only_setRowE _ _ _))
  rw [setRow_heap w g _ _ t _ hg]
  simp [hn]
/-- A hello that is being copied: where it was laid, the answer's room, what there is of the copy. -/
structure TeAt (w wx : World) (ins outs : Array Value) : Prop where
  b0 : wx.heap[w.heap.size]? = some (.cells ins 28 (0, 0))
  b1 : wx.heap[w.heap.size + 1]? = some (.cells #[.int .i64 0, .int .i64 0, .slice none 0 0, .slice none 0 0, .slice none 0 0, .int .i64 0, .int .i64 0, .int .i64 0, .int .i64 0, .int .i64 0, .int .i64 0, .int .i64 0, .int .i64 0, .int .i64 0, .bool false, .slice none 0 0, .slice none 0 0, .slice none 0 0] 37 (0, 0))
  b2 : wx.heap[w.heap.size + 2]? = some (.cells outs 37 (0, 0))
  bel : Below w.heap.size w wx
theorem TeAt.lt {w wx : World} {ins outs : Array Value} (h : TeAt w wx ins outs) : w.heap.size + 2 < wx.heap.size := (Array.getElem?_eq_some_iff.1 h.b2).1
theorem TeAt.called {w wx w' : World} {ins outs : Array Value} (h : TeAt w wx ins outs) (hb : Below wx.heap.size wx w') : TeAt w w' ins outs :=
  ⟨(hb.block _ (by have := h.lt; omega)).trans h.b0, (hb.block _ (by have := h.lt; omega)).trans h.b1, (hb.block _ h.lt).trans h.b2, h.bel.trans (hb.mono h.bel.size)⟩
theorem TeAt.stored {w wx : World} {ins outs : Array Value} (h : TeAt w wx ins outs) (i : Nat) (r : Value) : TeAt w (wx.setCell ⟨w.heap.size + 2, i, none⟩ r) ins (outs.setIfInBounds i r) :=
  ⟨(bk_other (by omega) i r).trans h.b0, (bk_other (by omega) i r).trans h.b1, bk_set h.b2 i r, h.bel.setCell (by show w.heap.size ≤ w.heap.size + 2; omega) _⟩
theorem te_new (w : World) (ins outs : Array Value) : TeAt w (((w.alloc (.cells ins 28)).alloc (.cells #[.int .i64 0, .int .i64 0, .slice none 0 0, .slice none 0 0, .slice none 0 0, .int .i64 0, .int .i64 0, .int .i64 0, .int .i64 0, .int .i64 0, .int .i64 0, .int .i64 0, .int .i64 0, .int .i64 0, .bool false, .slice none 0 0, .slice none 0 0, .slice none 0 0] 37)).alloc (.cells outs 37)) ins outs := by
  obtain ⟨h0, h1, h2⟩ := bk_new3 w (.cells ins 28) (.cells #[.int .i64 0, .int .i64 0, .slice none 0 0, .slice none 0 0, .slice none 0 0, .int .i64 0, .int .i64 0, .int .i64 0, .int .i64 0, .int .i64 0, .int .i64 0, .int .i64 0, .int .i64 0, .int .i64 0, .bool false, .slice none 0 0, .slice none 0 0, .slice none 0 0] 37) (.cells outs 37)
  exact ⟨h0, h1, h2, (((Below.refl _ _).alloc (Nat.le_refl _) _).alloc (by simp) _).alloc (by simp <;> omega) _⟩
theorem infoHel : (Tryz.prog.info? 37).map (·.size) = some 18 := by kernel_rfl
theorem chg_setS {S : Nat → Prop} {w w' : World} (h : Chg S w w') (a : Addr) (u : Value) (hs : S a.block) : Chg S w (w'.setCell a u) := h.set a u hs
theorem own_set {wx : World} {base e g n i : Nat} {u v : Value} {xs : List Value} (ho : wx.ownsRow base e 1 v n xs) (hb : g < base) : (wx.setCell ⟨g, i, none⟩ u).ownsRow base e 1 v n xs :=
  (Only.setCell (w := wx) ⟨g, i, none⟩ u).owns ho (fun k hk e => by have := (ho.lt k hk).1; have := Option.some.inj e; simp only at this; omega)
theorem hel_end {w w1 w2 w3 w4 w6 : World} {c0 c1 c2 c3 : Nat} {h : HE} {ao0 ao1 ao2 x3 x4 x5 : Option Addr} {cp0 cp1 cp2 p3 p4 p5 : Nat} {u0 u1 u2 : Value} (k0 : w.heap.size + 3 ≤ c0) (z1 : w.heap.size + 2 < w1.heap.size)
    (o0 : w1.ownsRow c0 5 1 (.slice ao0 h.rnd.length cp0) h.rnd.length (h.rnd.map (Value.int .u8)))
    (k1 : w1.heap.size ≤ c1) (s2 : w1.heap.size ≤ w2.heap.size) (b1 : Below (w1.setCell ⟨w.heap.size + 2, 2, none⟩ u0).heap.size (w1.setCell ⟨w.heap.size + 2, 2, none⟩ u0) w2) (o1 : w2.ownsRow c1 3 1 (.slice ao1 h.vers.length cp1) h.vers.length (h.vers.map (Value.int .i64)))
    (k2 : w2.heap.size ≤ c2) (s3 : w2.heap.size ≤ w3.heap.size) (b2 : Below (w2.setCell ⟨w.heap.size + 2, 3, none⟩ u1).heap.size (w2.setCell ⟨w.heap.size + 2, 3, none⟩ u1) w3) (o2 : w3.ownsRow c2 9 1 (.slice ao2 h.nms.length cp2) h.nms.length (h.nms.map Value.string))
    (k3 : w3.heap.size ≤ c3) (s4 : w3.heap.size ≤ w4.heap.size) (b3 : Below (w3.setCell ⟨w.heap.size + 2, 4, none⟩ u2).heap.size (w3.setCell ⟨w.heap.size + 2, 4, none⟩ u2) w4) (o4 : PPOwns w4 c3 (.agg #[.int .i64 h.par.a0, .int .i64 h.par.a1, .int .i64 h.par.a2, .int .i64 h.par.a3, .int .i64 h.par.a4, .int .i64 h.par.a5, .int .i64 h.par.a6, .int .i64 h.par.a7, .int .i64 h.par.a8, .bool h.par.m, .slice x3 h.par.o.length p3, .slice x4 h.par.t.length p4, .slice x5 h.par.f.length p5]) h.par)
    (cc : Chg (fun k => k = w.heap.size + 1 ∨ k = w.heap.size + 2) w4 w6) :
    HEOwns w6 w.heap.size (.agg #[.int .i64 h.kd, .int .i64 h.vr, .slice ao0 h.rnd.length cp0, .slice ao1 h.vers.length cp1, .slice ao2 h.nms.length cp2, .int .i64 h.par.a0, .int .i64 h.par.a1, .int .i64 h.par.a2, .int .i64 h.par.a3, .int .i64 h.par.a4, .int .i64 h.par.a5, .int .i64 h.par.a6, .int .i64 h.par.a7, .int .i64 h.par.a8, .bool h.par.m, .slice x3 h.par.o.length p3, .slice x4 h.par.t.length p4, .slice x5 h.par.f.length p5]) h := by
  obtain ⟨t3, t4, t5, et, q⟩ := o4
  cases et
  have m0 := owns_mono o0 (base' := w.heap.size + 3) k0
  have m1 := owns_mono o1 (base' := w.heap.size + 3) (by omega)
  have m2 := owns_mono o2 (base' := w.heap.size + 3) (by omega)
  have n0 := owns_below (own_set (i := 4) (u := u2) (owns_below (own_set (i := 3) (u := u1) (owns_below (own_set (i := 2) (u := u0) m0 (g := w.heap.size + 2) (by omega)) b1) (g := w.heap.size + 2) (by omega)) b2) (g := w.heap.size + 2) (by omega)) b3
  have n1 := owns_below (own_set (i := 4) (u := u2) (owns_below (own_set (i := 3) (u := u1) m1 (g := w.heap.size + 2) (by omega)) b2) (g := w.heap.size + 2) (by omega)) b3
  have n2 := owns_below (own_set (i := 4) (u := u2) m2 (g := w.heap.size + 2) (by omega)) b3
  have fin : ∀ {e n : Nat} {v : Value} {xs : List Value}, w4.ownsRow (w.heap.size + 3) e 1 v n xs → w6.ownsRow w.heap.size e 1 v n xs := fun h => owns_mono (cc.owns h (fun k hk e => by have := (h.lt k hk).1; omega)) (by omega)
  have q0 := owns_mono q.o0 (base' := w.heap.size + 3) (by omega)
  have q1 := owns_mono q.o1 (base' := w.heap.size + 3) (by omega)
  have q2 := owns_mono q.o2 (base' := w.heap.size + 3) (by omega)
  refine ⟨_, _, _, _, _, _, rfl, fin n0, fin n1, fin n2, fin q0, fin q1, fin q2, ?_⟩
  have L0 := o0.lt
  have L1 := o1.lt
  have L2 := o2.lt
  have L3 := q.o0.lt
  have L4 := q.o1.lt
  have L5 := q.o2.lt
  refine List.Pairwise.cons ?_ (List.Pairwise.cons ?_ (List.Pairwise.cons ?_ (List.Pairwise.cons ?_ (List.Pairwise.cons ?_ (List.Pairwise.cons ?_ List.Pairwise.nil)))))
  · intro u hu g e1 e2
    have a := L0 g e1
    simp only [List.mem_cons, List.mem_nil_iff, or_false] at hu
    rcases hu with rfl | rfl | rfl | rfl | rfl
    · have := L1 g e2; omega
    · have := L2 g e2; omega
    · have := L3 g e2; omega
    · have := L4 g e2; omega
    · have := L5 g e2; omega
  · intro u hu g e1 e2
    have a := L1 g e1
    simp only [List.mem_cons, List.mem_nil_iff, or_false] at hu
    rcases hu with rfl | rfl | rfl | rfl
    · have := L2 g e2; omega
    · have := L3 g e2; omega
    · have := L4 g e2; omega
    · have := L5 g e2; omega
  · intro u hu g e1 e2
    have a := L2 g e1
    simp only [List.mem_cons, List.mem_nil_iff, or_false] at hu
    rcases hu with rfl | rfl | rfl
    · have := L3 g e2; omega
    · have := L4 g e2; omega
    · have := L5 g e2; omega
  · intro u hu
    simp only [List.mem_cons, List.mem_nil_iff, or_false] at hu
    rcases hu with rfl | rfl
    · exact q.a01
    · exact q.a02
  · intro u hu
    simp only [List.mem_cons, List.mem_nil_iff, or_false] at hu
    subst hu
    exact q.a12
  · intro u hu
    cases hu
set_option maxRecDepth 20000 in
set_option maxHeartbeats 8000000 in
theorem toHel (v : Value) (h : HE) (w : World) (hr : HERow w v h) (hs : h.small 1048576) :
    Calls Tryz.prog 7 #[v] w fun e w' => ∃ r, e = .returned r ∧ HEOwns w' w.heap.size r h ∧ Below w.heap.size w w' := by
  obtain ⟨v0, v1, v2, v3, v4, v5, rfl, r0, r1, r2, r3, r4, r5⟩ := hr
  have PR : PPRow w (.agg #[.int .i64 h.par.a0, .int .i64 h.par.a1, .int .i64 h.par.a2, .int .i64 h.par.a3, .int .i64 h.par.a4, .int .i64 h.par.a5, .int .i64 h.par.a6, .int .i64 h.par.a7, .int .i64 h.par.a8, .bool h.par.m, v3, v4, v5]) h.par := ⟨v3, v4, v5, rfl, r3, r4, r5⟩
  have T0 := te_new w #[.int .i64 h.kd, .int .i64 h.vr, v0, v1, v2, .int .i64 h.par.a0, .int .i64 h.par.a1, .int .i64 h.par.a2, .int .i64 h.par.a3, .int .i64 h.par.a4, .int .i64 h.par.a5, .int .i64 h.par.a6, .int .i64 h.par.a7, .int .i64 h.par.a8, .bool h.par.m, v3, v4, v5] #[.int .i64 h.kd, .int .i64 h.vr, .slice none 0 0, .slice none 0 0, .slice none 0 0, .int .i64 0, .int .i64 0, .int .i64 0, .int .i64 0, .int .i64 0, .int .i64 0, .int .i64 0, .int .i64 0, .int .i64 0, .bool false, .slice none 0 0, .slice none 0 0, .slice none 0 0]
  have HP : Hid _ := And.intro r0 (And.intro r1 (And.intro r2 (And.intro PR hs)))
  have H0 : Hid _ := T0
  have Q0 : w.heap.size + 3 ≤ (((w.alloc (.cells #[.int .i64 h.kd, .int .i64 h.vr, v0, v1, v2, .int .i64 h.par.a0, .int .i64 h.par.a1, .int .i64 h.par.a2, .int .i64 h.par.a3, .int .i64 h.par.a4, .int .i64 h.par.a5, .int .i64 h.par.a6, .int .i64 h.par.a7, .int .i64 h.par.a8, .bool h.par.m, v3, v4, v5] 28)).alloc (.cells #[.int .i64 0, .int .i64 0, .slice none 0 0, .slice none 0 0, .slice none 0 0, .int .i64 0, .int .i64 0, .int .i64 0, .int .i64 0, .int .i64 0, .int .i64 0, .int .i64 0, .int .i64 0, .int .i64 0, .bool false, .slice none 0 0, .slice none 0 0, .slice none 0 0] 37)).alloc (.cells #[.int .i64 h.kd, .int .i64 h.vr, .slice none 0 0, .slice none 0 0, .slice none 0 0, .int .i64 0, .int .i64 0, .int .i64 0, .int .i64 0, .int .i64 0, .int .i64 0, .int .i64 0, .int .i64 0, .int .i64 0, .bool false, .slice none 0 0, .slice none 0 0, .slice none 0 0] 37)).heap.size := by simp
  clear r0 r1 r2 r3 r4 r5 PR hs T0
  go_enter Tryz.func7, Tryz.ntmps7
  go_wp2_with fail
  go_at_call 6
  refine (toBytes v0 h.rnd _ (HP.out.1.below (H0.out).bel) (by have := HP.out.2.2.2.2.1; omega)).mono ?_
  rintro e w1 ⟨q0, rfl, o0, b0⟩
  obtain ⟨ao0, cp0, hr0⟩ := (row_of_owns o0).form
  subst hr0
  have T1 := (H0.out).called b0
  have z1 : w.heap.size + 2 < w1.heap.size := T1.lt
  have s1 : w1.cell? ⟨w.heap.size + 2, 2, none⟩ = some (.slice none 0 0) := by rw [bk_cell T1.b2]; rfl
  have f1 : w1.frozen? ⟨w.heap.size + 2, 2, none⟩ = false := bk_free T1.b2 2
  have n1 : w1.cell? ⟨w.heap.size, 3, none⟩ = some v1 := by rw [bk_cell T1.b0]; rfl
  have H1 : Hid _ := And.intro (T1.stored 2 (.slice ao0 h.rnd.length cp0)) (And.intro o0 b0)
  clear T1 o0 b0
  go_wp2_with fail
  go_at_call 26
  refine (toInts v1 h.vers _ (HP.out.2.1.below (H1.out.1).bel) (by have := HP.out.2.2.2.2.2.1; omega)).mono ?_
  rintro e w2 ⟨q1, rfl, o1, b1⟩
  obtain ⟨ao1, cp1, hr1⟩ := (row_of_owns o1).form
  subst hr1
  have T2 := (H1.out.1).called b1
  have z2 : w.heap.size + 2 < w2.heap.size := T2.lt
  have s2 : w2.cell? ⟨w.heap.size + 2, 3, none⟩ = some (.slice none 0 0) := by rw [bk_cell T2.b2]; rfl
  have f2 : w2.frozen? ⟨w.heap.size + 2, 3, none⟩ = false := bk_free T2.b2 3
  have n2 : w2.cell? ⟨w.heap.size, 4, none⟩ = some v2 := by rw [bk_cell T2.b0]; rfl
  have H2 : Hid _ := And.intro (T2.stored 3 (.slice ao1 h.vers.length cp1)) (And.intro o1 b1)
  clear T2 o1 b1
  clear s1 f1 n1
  go_wp2_with fail
  go_at_call 27
  refine (toStrs v2 h.nms _ (HP.out.2.2.1.below (H2.out.1).bel) HP.out.2.2.2.2.2.2.1).mono ?_
  rintro e w3 ⟨q2, rfl, o2, b2⟩
  obtain ⟨ao2, cp2, hr2⟩ := (trow_of_owns o2).form
  subst hr2
  have T3 := (H2.out.1).called b2
  have z3 : w.heap.size + 2 < w3.heap.size := T3.lt
  have s3 : w3.cell? ⟨w.heap.size + 2, 4, none⟩ = some (.slice none 0 0) := by rw [bk_cell T3.b2]; rfl
  have f3 : w3.frozen? ⟨w.heap.size + 2, 4, none⟩ = false := bk_free T3.b2 4
  have n3_0 : w3.cell? ⟨w.heap.size, 5, none⟩ = some (.int .i64 h.par.a0) := by rw [bk_cell T3.b0]; rfl
  have n3_1 : w3.cell? ⟨w.heap.size, 6, none⟩ = some (.int .i64 h.par.a1) := by rw [bk_cell T3.b0]; rfl
  have n3_2 : w3.cell? ⟨w.heap.size, 7, none⟩ = some (.int .i64 h.par.a2) := by rw [bk_cell T3.b0]; rfl
  have n3_3 : w3.cell? ⟨w.heap.size, 8, none⟩ = some (.int .i64 h.par.a3) := by rw [bk_cell T3.b0]; rfl
  have n3_4 : w3.cell? ⟨w.heap.size, 9, none⟩ = some (.int .i64 h.par.a4) := by rw [bk_cell T3.b0]; rfl
  have n3_5 : w3.cell? ⟨w.heap.size, 10, none⟩ = some (.int .i64 h.par.a5) := by rw [bk_cell T3.b0]; rfl
  have n3_6 : w3.cell? ⟨w.heap.size, 11, none⟩ = some (.int .i64 h.par.a6) := by rw [bk_cell T3.b0]; rfl
  have n3_7 : w3.cell? ⟨w.heap.size, 12, none⟩ = some (.int .i64 h.par.a7) := by rw [bk_cell T3.b0]; rfl
  have n3_8 : w3.cell? ⟨w.heap.size, 13, none⟩ = some (.int .i64 h.par.a8) := by rw [bk_cell T3.b0]; rfl
  have n3_9 : w3.cell? ⟨w.heap.size, 14, none⟩ = some (.bool h.par.m) := by rw [bk_cell T3.b0]; rfl
  have n3_10 : w3.cell? ⟨w.heap.size, 15, none⟩ = some (v3) := by rw [bk_cell T3.b0]; rfl
  have n3_11 : w3.cell? ⟨w.heap.size, 16, none⟩ = some (v4) := by rw [bk_cell T3.b0]; rfl
  have n3_12 : w3.cell? ⟨w.heap.size, 17, none⟩ = some (v5) := by rw [bk_cell T3.b0]; rfl
  have H3 : Hid _ := And.intro (T3.stored 4 (.slice ao2 h.nms.length cp2)) (And.intro o2 b2)
  clear T3 o2 b2
  clear s2 f2 n2
  go_wp2_with fail
  go_at_call 28
  refine (toPar _ h.par _ (HP.out.2.2.2.1.below (H3.out.1).bel) (ppsmall_mono HP.out.2.2.2.2.2.2.2 (by decide))).mono ?_
  rintro e w4 ⟨q4, rfl, o4, b4⟩
  clear s3 f3 n3_0 n3_1 n3_2 n3_3 n3_4 n3_5 n3_6 n3_7 n3_8 n3_9 n3_10 n3_11 n3_12
  obtain ⟨x3, x4, x5, p3, p4, p5, er⟩ := o4.parts
  subst er
  have T4 := (H3.out.1).called b4
  have H4 : Hid _ := And.intro T4 (And.intro o4 b4)
  clear T4 o4 b4
  go_wp2_with (first
    | (refine wpList_store_partE rfl 35 (.tmp 25) (.tmp 24) rfl (w.heap.size + 2) 5 13 [.int .i64 h.par.a0, .int .i64 h.par.a1, .int .i64 h.par.a2, .int .i64 h.par.a3, .int .i64 h.par.a4, .int .i64 h.par.a5, .int .i64 h.par.a6, .int .i64 h.par.a7, .int .i64 h.par.a8, .bool h.par.m, .slice x3 h.par.o.length p3, .slice x4 h.par.t.length p4, .slice x5 h.par.f.length p5] rfl rfl 37 _ H4.out.1.b2 infoPar rfl (by simp) (by intro u hu; simp at hu; rcases hu with rfl | rfl | rfl | rfl | rfl | rfl | rfl | rfl | rfl | rfl | rfl | rfl | rfl <;> rfl) ?_; intro w5 h5 m5; have y0 : w5.cell? ⟨w.heap.size + 2, 0, none⟩ = some (.int .i64 h.kd) := (by rw [bk_cell h5]; rfl); have y1 : w5.cell? ⟨w.heap.size + 2, 1, none⟩ = some (.int .i64 h.vr) := (by rw [bk_cell h5]; rfl); have y2 : w5.cell? ⟨w.heap.size + 2, 2, none⟩ = some (.slice ao0 h.rnd.length cp0) := (by rw [bk_cell h5]; rfl); have y3 : w5.cell? ⟨w.heap.size + 2, 3, none⟩ = some (.slice ao1 h.vers.length cp1) := (by rw [bk_cell h5]; rfl); have y4 : w5.cell? ⟨w.heap.size + 2, 4, none⟩ = some (.slice ao2 h.nms.length cp2) := (by rw [bk_cell h5]; rfl); have y5 : w5.cell? ⟨w.heap.size + 2, 5, none⟩ = some (.int .i64 h.par.a0) := (by rw [bk_cell h5]; rfl); have y6 : w5.cell? ⟨w.heap.size + 2, 6, none⟩ = some (.int .i64 h.par.a1) := (by rw [bk_cell h5]; rfl); have y7 : w5.cell? ⟨w.heap.size + 2, 7, none⟩ = some (.int .i64 h.par.a2) := (by rw [bk_cell h5]; rfl); have y8 : w5.cell? ⟨w.heap.size + 2, 8, none⟩ = some (.int .i64 h.par.a3) := (by rw [bk_cell h5]; rfl); have y9 : w5.cell? ⟨w.heap.size + 2, 9, none⟩ = some (.int .i64 h.par.a4) := (by rw [bk_cell h5]; rfl); have y10 : w5.cell? ⟨w.heap.size + 2, 10, none⟩ = some (.int .i64 h.par.a5) := (by rw [bk_cell h5]; rfl); have y11 : w5.cell? ⟨w.heap.size + 2, 11, none⟩ = some (.int .i64 h.par.a6) := (by rw [bk_cell h5]; rfl); have y12 : w5.cell? ⟨w.heap.size + 2, 12, none⟩ = some (.int .i64 h.par.a7) := (by rw [bk_cell h5]; rfl); have y13 : w5.cell? ⟨w.heap.size + 2, 13, none⟩ = some (.int .i64 h.par.a8) := (by rw [bk_cell h5]; rfl); have y14 : w5.cell? ⟨w.heap.size + 2, 14, none⟩ = some (.bool h.par.m) := (by rw [bk_cell h5]; rfl); have y15 : w5.cell? ⟨w.heap.size + 2, 15, none⟩ = some (.slice x3 h.par.o.length p3) := (by rw [bk_cell h5]; rfl); have y16 : w5.cell? ⟨w.heap.size + 2, 16, none⟩ = some (.slice x4 h.par.t.length p4) := (by rw [bk_cell h5]; rfl); have y17 : w5.cell? ⟨w.heap.size + 2, 17, none⟩ = some (.slice x5 h.par.f.length p5) := (by rw [bk_cell h5]; rfl); have H5 : Hid _ := And.intro h5 (And.intro m5 ((m5.block (w.heap.size + 1) (fun e => by have := Option.some.inj e; omega)).trans H4.out.1.b1)); clear h5 m5)
    | (refine wpList_store_atE rfl 37 (.tmp 2) (.tmp 26) rfl (w.heap.size + 1) _ rfl rfl 37 _ H5.out.2.2 infoHel rfl (by simp [Value.oneCell']) ?_; intro w6 h6 m6))
  clear y0 y1 y2 y3 y4 y5 y6 y7 y8 y9 y10 y11 y12 y13 y14 y15 y16 y17
  try simp only [Exit.inBlock, Exit.then]
  refine bodyPost_ret (v := .agg #[.int .i64 h.kd, .int .i64 h.vr, .slice ao0 h.rnd.length cp0, .slice ao1 h.vers.length cp1, .slice ao2 h.nms.length cp2, .int .i64 h.par.a0, .int .i64 h.par.a1, .int .i64 h.par.a2, .int .i64 h.par.a3, .int .i64 h.par.a4, .int .i64 h.par.a5, .int .i64 h.par.a6, .int .i64 h.par.a7, .int .i64 h.par.a8, .bool h.par.m, .slice x3 h.par.o.length p3, .slice x4 h.par.t.length p4, .slice x5 h.par.f.length p5]) ?_ rfl ?_
  · exact results_cell_row (t := 37) rfl _ _ (w.heap.size + 1) _ (fr := (0, 0)) _ rfl h6 Tryz.underlying37 rfl infoHel
  · have e1 : ∀ (x : World) (a : Addr) (u : Value), (x.setCell a u).heap.size = x.heap.size := fun x a u => by simp [World.setCell]
    have cc : Chg (fun k => k = w.heap.size + 1 ∨ k = w.heap.size + 2) w4 w6 := (Chg.of_only H5.out.2.1 (fun k e => by cases e; exact Or.inr rfl)).trans (Chg.of_only m6 (fun k e => by cases e; exact Or.inl rfl))
    have s2 : w1.heap.size ≤ w2.heap.size := by have := H2.out.2.2.size; rwa [e1] at this
    have s3 : w2.heap.size ≤ w3.heap.size := by have := H3.out.2.2.size; rwa [e1] at this
    have s4 : w3.heap.size ≤ w4.heap.size := by have := H4.out.2.2.size; rwa [e1] at this
    exact ⟨_, rfl, hel_end Q0 z1 H1.out.2.1 (by rw [e1]; exact Nat.le_refl _) s2 H2.out.2.2 H2.out.2.1 (by rw [e1]; exact Nat.le_refl _) s3 H3.out.2.2 H3.out.2.1 (by rw [e1]; exact Nat.le_refl _) s4 H4.out.2.2 H4.out.2.1 cc, H4.out.1.bel.trans (cc.below (by have := H4.out.1.bel.size; omega) (fun k e => by omega))⟩
end Go.Proofs.YteggfkekgdlecaaGreatDoor

namespace Go.Proofs.YteggfkekgdlecaaGreatDoor
open Go.RowKit
set_option linter.unusedVariables false
set_option linter.unusedSimpArgs false

theorem infoHelLA : (Tryz.prog.info? 28).map (·.size) = some 18 := by kernel_rfl
theorem infoHelIA : (Tryz.prog.info? 37).map (·.size) = some 18 := by kernel_rfl
theorem setRow_newA (w : World) (old cs : Array Value) (t : TypeId) : (w.alloc (.cells old t)).setRow w.heap.size cs = w.alloc (.cells cs t) := by
  simp [World.setRow, World.alloc, -World.alloc_eq]
  apply Array.ext
  · simp
  · intro i h1 h2
    rw [Array.getElem_modify]
    by_cases e : w.heap.size = i
    · subst e; simp
    · have hi : i < w.heap.size := by simp at h2; omega
      rw [if_neg e, Array.getElem_push_lt hi, Array.getElem_push_lt hi]
theorem step_wpA {ops : Array Oper} {o : Oper} {a : Act} {w : World} {K : Act → World → Prop} {Q : Exit → Act → World → Prop} {E : Prop} (hgd : o.guard = none) (h : Oper.wp Tryz.prog o a w K Q) :
    if Region.wanted o (yielded ops a.tmps) = true then Oper.wp Tryz.prog o a w K Q else E := by
  have hw : Region.wanted o (yielded ops a.tmps) = true := by simp [Region.wanted, hgd]
  rw [if_pos hw]
  exact h
theorem rowNA {w : World} {base e n : Nat} {v : Value} {xs : List Int} (h : w.ownsRow base e 1 v n (xs.map (Value.int .u8))) (hn : n = xs.length) : Row w .u8 v xs := by
  subst hn; exact row_of_owns h
theorem he_cells {w : World} {v : Value} {h : HE} (r : HERow w v h) : ∃ C : Array Value, v = .agg C ∧ C.size = 18 := by
  obtain ⟨x0, x1, x2, x3, x4, x5, rfl, _⟩ := r
  exact ⟨_, rfl, rfl⟩
theorem he_one {w : World} {b : Nat} {C : Array Value} {h : HE} (r : HEOwns w b (.agg C) h) : C.all (·.oneCell') = true := by
  obtain ⟨x0, x1, x2, x3, x4, x5, e, r0⟩ := r
  obtain ⟨_, _, rfl⟩ := own_formA r0.o0
  obtain ⟨_, _, rfl⟩ := own_formA r0.o1
  obtain ⟨_, _, rfl⟩ := own_formA r0.o2
  obtain ⟨_, _, rfl⟩ := own_formA r0.o3
  obtain ⟨_, _, rfl⟩ := own_formA r0.o4
  obtain ⟨_, _, rfl⟩ := own_formA r0.o5
  cases e
  simp [Value.oneCell']
theorem ag_cells {w : World} {b : Nat} {v : Value} {z : AG} (r : AGOwns w b v z) : ∃ C : Array Value, v = .agg C ∧ C.size = 7 ∧ C.all (·.oneCell') = true := by
  obtain ⟨x0, x1, x2, x3, x4, rfl, r0⟩ := r
  obtain ⟨_, _, rfl⟩ := own_formA r0.o0
  obtain ⟨_, _, rfl⟩ := own_formA r0.o1
  obtain ⟨_, _, rfl⟩ := own_formA r0.o2
  obtain ⟨_, _, rfl⟩ := own_formA r0.o3
  obtain ⟨_, _, rfl⟩ := own_formA r0.o4
  exact ⟨_, rfl, rfl, by simp [Value.oneCell']⟩
theorem ag_blk {w w' : World} {base b : Nat} {v : Value} {z : AG} {cs : Array Value} (h : AGOwns w base v z) (g : w.grownBy w' (some b)) (hb : w.heap[b]? = some (.cells cs 31 (0, 0))) : AGOwns w' base v z := by
  obtain ⟨x0, x1, x2, x3, x4, rfl, r0⟩ := h
  exact ⟨_, _, _, _, _, rfl, r0.blkA g hb⟩
theorem row_blkA {w w' : World} {e : Nat} {v : Value} {xs : List Int} (h : Row w .u8 v xs) (g : w.grownBy w' none) : Row w' .u8 v xs :=
  h.below ⟨g.os, g.tape, g.output, g.size, fun i hi => g.block i hi (by simp)⟩
theorem ag_small {z : AG} {n : Nat} (h : z.small 64) (hn : 64 ≤ n := by decide) : z.small n := by
  obtain ⟨a, b, c, d, e⟩ := h
  exact ⟨by omega, by omega, by omega, by omega, by omega⟩
/-- Amid the statement that calls Agree with fresh arguments. -/
structure PLa (W0 : World) (v0 : Value) (ss : List Int) (c s : HE) (CA CB : Array Value) (z : AG) (cd : Int) (f : Nat → Bool) (w : World) (u34 u35 u36 u37 u38 u39 u40 u33 u41 u42 u8 u9 : Value) : Prop where
  x0 : f 0 = true → u34 = v0
  x1 : f 1 = true → Row w .u8 u35 ss
  x2 : f 2 = true → u36 = .agg CA
  x3 : f 3 = true → HERow w u37 c
  x4 : f 4 = true → u38 = .agg CB
  x5 : f 5 = true → HERow w u39 s
  x6 : f 6 = true → ∃ C : Array Value, u40 = .tuple #[.agg C, .int .i64 cd] ∧ AGOwns w W0.heap.size (.agg C) z ∧ (f 7 = true → u33 = u40) ∧ (f 8 = true → u41 = .agg C) ∧ (f 9 = true → u42 = .int .i64 cd)
  x10 : f 10 = true → ∃ b : Nat, u8 = .pointer (some ⟨b, 0, none⟩) ∧ W0.heap.size ≤ b ∧ w.heap[b]? = some (.cells #[.int .i64 0, .string ⟨#[]⟩, .slice none 0 0, .slice none 0 0, .slice none 0 0, .slice none 0 0, .slice none 0 0] 31 (0, 0))
  x12 : f 12 = true → u9 = .int .i64 cd
  bl : Below W0.heap.size W0 w
  q7 : f 7 = true → f 6 = true
  q8 : f 8 = true → f 7 = true
  q9 : f 9 = true → f 7 = true
  late : f 11 = true → f 10 = true ∧ ∀ i, i < 9 → f i = true
  late2 : f 12 = true → f 11 = true ∧ f 9 = true
set_option maxRecDepth 20000 in
set_option maxHeartbeats 40000000 in
theorem agLaw (v0 v1 v2 : Value) (x0 : List Int) (k1 k2 : HE) (z : AG) (cd : Int) (w : World) (Inv : World → Prop) (hInv : ∀ w' : World, Below w.heap.size w w' → Inv w') (row0 : Row w .u8 v0 x0) (l0 : x0.length ≤ 1048576) (row1 : HERow w v1 k1) (row2 : HERow w v2 k2) (l1 : k1.small 1048576) (l2 : k2.small 1048576) (t1 : k1.total + k2.total ≤ 1048576) (zs : z.small 64)
    (hS : ∀ (w : World) (u0 u1 u2 : Value), Row w .u8 u0 x0 → HERow w u1 k1 → HERow w u2 k2 → Calls Tryz.prog 5 #[u0, u1, u2] w fun e w' => ∃ r, e = .returned (.tuple #[r, .int .i64 cd]) ∧ AGOwns w' w.heap.size r z ∧ Below w.heap.size w w')
    (hI : ∀ (w : World) (u0 u1 u2 : Value), Inv w → Row w .u8 u0 x0 → HERow w u1 k1 → HERow w u2 k2 → Calls Tryz.prog 8 #[u0, u1, u2] w fun e w' => ∃ r, e = .returned (.tuple #[r, .int .i64 cd]) ∧ AGOwns w' w.heap.size r z ∧ Below w.heap.size w w') :
    Calls Tryz.prog 3 #[v0, v1, v2] w fun e w' => e = .returned (.bool true) ∧ Below w.heap.size w w' := by
  obtain ⟨ao0, cp0, ev0⟩ := row0.form
  subst ev0
  obtain ⟨n0, en0⟩ : ∃ n, n = x0.length := ⟨_, rfl⟩
  have TB0 : Hid (∀ w : World, Row w .u8 (.slice ao0 n0 cp0) x0 → Calls Tryz.prog 6 #[.slice ao0 n0 cp0] w fun e w' => ∃ r, e = .returned r ∧ w'.ownsRow w.heap.size 5 1 r x0.length (x0.map (Value.int .u8)) ∧ Below w.heap.size w w') := fun w h => toBytes _ x0 w h (by omega)
  rw [← en0] at row0 l0 ⊢
  have EN0 : Hid _ := And.intro en0 row0
  have TB1 : Hid (∀ w : World, HERow w v1 k1 → Calls Tryz.prog 7 #[v1] w fun e w' => ∃ r, e = .returned r ∧ HEOwns w' w.heap.size r k1 ∧ Below w.heap.size w w') := fun w h => toHel v1 k1 w h (hesmall_mono l1 (by decide))
  have TB2 : Hid (∀ w : World, HERow w v2 k2 → Calls Tryz.prog 7 #[v2] w fun e w' => ∃ r, e = .returned r ∧ HEOwns w' w.heap.size r k2 ∧ Below w.heap.size w w') := fun w h => toHel v2 k2 w h (hesmall_mono l2 (by decide))
  obtain ⟨CA, eCA, sCA⟩ := he_cells row1
  obtain ⟨CB, eCB, sCB⟩ := he_cells row2
  subst eCA
  subst eCB
  have SZCA : Hid ((Tryz.prog.info? 28).map (·.size) = some CA.size) := by rw [sCA]; exact infoHelLA
  have SZCB : Hid ((Tryz.prog.info? 28).map (·.size) = some CB.size) := by rw [sCB]; exact infoHelLA
  have WB : Below w.heap.size w ((w.alloc (.cells CA 28)).alloc (.cells CB 28)) := ((Below.refl _ _).alloc (Nat.le_refl _) _).alloc (by simp) _
  have h4 : ((w.alloc (.cells CA 28)).alloc (.cells CB 28)).heap[w.heap.size]? = some (.cells CA 28 (0, 0)) := by rw [Below.heap_alloc _ _ _ (by simp)]; exact heap_alloc_new w _
  have h5 : ((w.alloc (.cells CA 28)).alloc (.cells CB 28)).heap[w.heap.size + 1]? = some (.cells CB 28 (0, 0)) := by have h := heap_alloc_new (w.alloc (.cells CA 28)) (.cells CB 28); simpa using h
  have tt1 : 0 ≤ k1.total := hetot_nn _
  have tt2 : 0 ≤ k2.total := hetot_nn _
  have CZ1 := heszF _ k1 1048576 _ (row1.below WB) (hesmall_mono l1 (by decide)) (by decide) (by decide) (by omega)
  obtain ⟨lt, el⟩ : ∃ lt, lt = 1048576 - k1.total := ⟨_, rfl⟩
  have CZ2 : ∀ wx, Below w.heap.size w wx → _ := fun wx b => heszF _ k2 lt wx (row2.below b) (hesmall_mono l2 (by decide)) (by omega) (by omega) (by omega)
  obtain ⟨lu, eu⟩ : ∃ lu, lu = lt - k2.total := ⟨_, rfl⟩
  rw [← el] at CZ1
  rw [← eu] at CZ2
  have lt0 : ¬ lt < 0 := by omega
  have lu0 : ¬ lu < 0 := by omega
  have HZ : Hid _ := And.intro CZ1 CZ2
  have mn1 := hemarks_nn k1
  have mn2 := hemarks_nn k2
  have EN1 : Hid _ := And.intro l1 row1
  have EN2 : Hid _ := And.intro l2 row2
  obtain ⟨kp0, kp1, kp2, kp3, kp4, kp5⟩ := id l1
  have mx1 : k1.marksN ≤ 6291456 := by unfold HE.marksN; omega
  obtain ⟨kq0, kq1, kq2, kq3, kq4, kq5⟩ := id l2
  have mx2 : k2.marksN ≤ 6291456 := by unfold HE.marksN; omega
  have hc1 : (cd != cd) = false := by simp
  have LR : Hid _ := And.intro zs True.intro
  have HS : Hid _ := And.intro hS True.intro
  have HI : Hid _ := And.intro hI True.intro
  have HV : Hid _ := And.intro hInv True.intro
  have C_0 : Hid _ := And.intro WB True.intro
  have bA_0 : Hid _ := h4
  have bB_0 : Hid _ := h5
  have y_0 : ((w.alloc (.cells CA 28)).alloc (.cells CB 28)).heap.size = w.heap.size + 1 + 1 := by simp
  obtain ⟨Wa, eWa⟩ : ∃ x, x = (w.alloc (.cells CA 28)).alloc (.cells CB 28) := ⟨_, rfl⟩
  rw [← eWa] at C_0 bA_0 bB_0 y_0 HZ
  have EW : Hid _ := And.intro eWa True.intro
  clear hS hI hInv row0 row1 row2 el eu tt1 tt2 t1 l1 l2 en0 WB CZ1 CZ2 h4 h5 zs sCA sCB eWa
  go_enter Tryz.func3, Tryz.ntmps3
  go_upto_region 1 with fail
  rw [show (w.alloc (.cells CA 28)).alloc (.cells CB 28) = Wa from EW.out.1.symm]
  go_wp2_with (refine wpList_load_row rfl 28 _ rfl w.heap.size rfl 28 CA (0, 0) _ bA_0.out Tryz.underlying28 rfl SZCA.out ?_)
  go_at_call 4
  refine HZ.out.1.mono ?_
  rintro e w1 ⟨rfl, bz⟩
  have z_1 : Wa.heap.size ≤ w1.heap.size := bz.size
  have bA_1 : Hid (w1.heap[w.heap.size]? = some (.cells CA 28 (0, 0))) := (bz.block _ (Array.getElem?_eq_some_iff.1 bA_0.out).1).trans bA_0.out
  have bB_1 : Hid (w1.heap[(w.heap.size + 1)]? = some (.cells CB 28 (0, 0))) := (bz.block _ (Array.getElem?_eq_some_iff.1 bB_0.out).1).trans bB_0.out
  have C_1 : Hid _ := And.intro (C_0.out.1.trans (bz.mono C_0.out.1.size)) True.intro
  clear bA_0 bB_0 C_0
  clear bz
  go_wp2_with (refine wpList_load_row rfl 28 _ rfl (w.heap.size + 1) rfl 28 CB (0, 0) _ bB_1.out Tryz.underlying28 rfl SZCB.out ?_)
  go_at_call 4
  refine (HZ.out.2 _ C_1.out.1).mono ?_
  rintro e w2 ⟨rfl, bz⟩
  have z_2 : w1.heap.size ≤ w2.heap.size := bz.size
  have bA_2 : Hid (w2.heap[w.heap.size]? = some (.cells CA 28 (0, 0))) := (bz.block _ (Array.getElem?_eq_some_iff.1 bA_1.out).1).trans bA_1.out
  have bB_2 : Hid (w2.heap[(w.heap.size + 1)]? = some (.cells CB 28 (0, 0))) := (bz.block _ (Array.getElem?_eq_some_iff.1 bB_1.out).1).trans bB_1.out
  have C_2 : Hid _ := And.intro (C_1.out.1.trans (bz.mono C_1.out.1.size)) True.intro
  clear bA_1 bB_1 C_1
  clear bz
  go_upto_region 10 with fail
  have CL4 : ∀ wx, Below w2.heap.size w2 wx → wx.heap[w.heap.size]? = some (.cells CA 28 (0, 0)) ∧ wx.heap[w.heap.size + 1]? = some (.cells CB 28 (0, 0)) ∧ Below w.heap.size w wx := fun wx b => ⟨(b.block _ (Array.getElem?_eq_some_iff.1 bA_2.out).1).trans bA_2.out, (b.block _ (Array.getElem?_eq_some_iff.1 bB_2.out).1).trans bB_2.out, C_2.out.1.trans (b.mono C_2.out.1.size)⟩
  have HCL : Hid _ := And.intro CL4 True.intro
  clear CL4
  refine region_J (id := 10) (fun f a wx => ∃ u34 u35 u36 u37 u38 u39 u40 u33 u41 u42 u8 u9 : Value, ∃ wy : World, a = { tmps := #[Value.slice ao0 n0 cp0, Value.agg CA, Value.agg CB, undef, Value.pointer (some { block := w.heap.size, off := 0 }), Value.pointer (some { block := w.heap.size + 1, off := 0 }), Value.bool false, Value.int IntKind.i64 lu, u8, u9, undef, undef, undef, undef, undef, undef, undef, undef, undef, undef, Value.slice ao0 n0 cp0, Value.int IntKind.i64 (n0 : Int), Value.bool (decide (1048576 < (n0 : Int))), Value.agg CA, Value.int IntKind.i64 1048576, Value.int IntKind.i64 lt, Value.int IntKind.i64 lt, Value.bool (decide (lt < 0)), Value.agg CB, Value.int IntKind.i64 lt, Value.int IntKind.i64 lu, Value.int IntKind.i64 lu, Value.bool (decide (lu < 0)), u33, u34, u35, u36, u37, u38, u39, u40, u41, u42, undef, undef, undef, undef, undef, undef, undef, undef, undef, undef, undef, undef, undef, undef, undef, undef, undef, undef, undef, undef, undef, undef, undef, undef, undef, undef, undef, undef, undef, undef, undef, undef, undef, undef, undef, undef, undef, undef, undef, undef, undef, undef, undef, undef, undef, undef, undef, undef, undef, undef, undef, undef, undef, undef, undef, undef, undef, undef, undef, undef, undef, undef, undef, undef, undef, undef, undef, undef, undef, undef, undef, undef, undef, undef, undef, undef, undef, undef, undef, undef, undef, undef, undef, undef, undef, undef, undef, undef, undef, undef, undef, undef, undef, undef, undef, undef, undef], defers := [] } ∧ PLa w2 (.slice ao0 n0 cp0) x0 k1 k2 CA CB z cd f wy u34 u35 u36 u37 u38 u39 u40 u33 u41 u42 u8 u9 ∧ ∃ CZ : Array Value, ∃ bz : Nat, (f 6 = true → u40 = .tuple #[.agg CZ, .int .i64 cd]) ∧ (f 10 = true → u8 = .pointer (some ⟨bz, 0, none⟩)) ∧ wx = (if f 11 = true then wy.setRow bz CZ else wy)) (by kernel_rfl) (by kernel_rfl) ?step ?done ?start
  case start =>
    exact ⟨_, _, _, _, _, _, _, _, _, _, _, _, w2.drew, rfl, ⟨fun h => by simp at h, fun h => by simp at h, fun h => by simp at h, fun h => by simp at h, fun h => by simp at h, fun h => by simp at h, fun h => by simp at h, fun h => by simp at h, fun h => by simp at h, ⟨rfl, rfl, rfl, Nat.le_refl _, fun _ _ => rfl⟩, fun h => by simp at h, fun h => by simp at h, fun h => by simp at h, fun h => by simp at h, fun h => by simp at h⟩, #[], 0, fun h => by simp at h, fun h => by simp at h, by simp⟩
  case step =>
    intro f a wx j op hInv hoj hfj hall K hK
    obtain ⟨u34, u35, u36, u37, u38, u39, u40, u33, u41, u42, u8, u9, wy, rfl, hI, CZ, bz, hCZ, hbz, hwx⟩ := hInv
    have hj : j < 13 := (Array.getElem?_eq_some_iff.1 hoj).1
    obtain rfl | rfl | rfl | rfl | rfl | rfl | rfl | rfl | rfl | rfl | rfl | rfl | rfl : j = 0 ∨ j = 1 ∨ j = 2 ∨ j = 3 ∨ j = 4 ∨ j = 5 ∨ j = 6 ∨ j = 7 ∨ j = 8 ∨ j = 9 ∨ j = 10 ∨ j = 11 ∨ j = 12 := by omega
    · obtain rfl := Option.some.inj hoj
      have h11 : f 11 = false := by
        cases h : f 11 with
        | false => rfl
        | true => exact absurd ((hI.late h).2 0 (by omega)) (by rw [hfj]; simp)
      obtain rfl : wx = wy := by rw [hwx, h11]; rfl
      clear hwx
      have HI2 : Hid _ := And.intro hI (And.intro hCZ hbz)
      clear hI hCZ hbz
      go_simp
      refine hK _ _ ⟨_, _, _, _, _, _, _, _, _, _, _, _, wx, rfl, ?_, CZ, bz, fun h => HI2.out.2.1 (by simpa using h), fun h => HI2.out.2.2 (by simpa using h), by simp [h11]⟩
      have hI := HI2.out.1
      exact ⟨fun _ => rfl, fun h => hI.x1 (by simpa using h), fun h => hI.x2 (by simpa using h), fun h => hI.x3 (by simpa using h), fun h => hI.x4 (by simpa using h), fun h => hI.x5 (by simpa using h), fun h => by obtain ⟨C, e, oA, t7, t8, t9⟩ := hI.x6 (by simpa using h); exact ⟨C, e, oA, fun h => t7 (by simpa using h), fun h => t8 (by simpa using h), fun h => t9 (by simpa using h)⟩, fun h => by obtain ⟨b, e, hz, hb⟩ := hI.x10 (by simpa using h); exact ⟨b, e, hz, hb⟩, fun h => hI.x12 (by simpa using h), hI.bl, fun h => by have := hI.q7 (by simpa using h); simp [this], fun h => by have := hI.q8 (by simpa using h); simp [this], fun h => by have := hI.q9 (by simpa using h); simp [this], fun h => by have := hI.late (by simpa using h); exact ⟨by simp [this.1], fun i hi => by simp [this.2 i hi]⟩, fun h => by have := hI.late2 (by simpa using h); simp [this]⟩
    · obtain rfl := Option.some.inj hoj
      have h0_ := hall ⟨0, .data⟩ (by simp) rfl
      have h11 : f 11 = false := by
        cases h : f 11 with
        | false => rfl
        | true => exact absurd ((hI.late h).2 1 (by omega)) (by rw [hfj]; simp)
      obtain rfl : wx = wy := by rw [hwx, h11]; rfl
      clear hwx
      obtain rfl := hI.x0 h0_
      have HI2 : Hid _ := And.intro hI (And.intro hCZ hbz)
      clear hI hCZ hbz
      go_simp
      go_at_call 6
      refine (TB0.out wx (EN0.out.2.below (HCL.out.1 wx HI2.out.1.bl).2.2)).mono ?_
      rintro e wq ⟨r, rfl, o7, b7⟩
      refine hK _ _ ⟨_, _, _, _, _, _, _, _, _, _, _, _, wq, rfl, ?_, CZ, bz, fun h => HI2.out.2.1 (by simpa using h), fun h => HI2.out.2.2 (by simpa using h), by simp [h11]⟩
      have hI := HI2.out.1
      exact ⟨fun h => hI.x0 (by simpa using h), fun _ => row_of_owns o7, fun h => hI.x2 (by simpa using h), fun h => (hI.x3 (by simpa using h)).below b7, fun h => hI.x4 (by simpa using h), fun h => (hI.x5 (by simpa using h)).below b7, fun h => by obtain ⟨C, e, oA, t7, t8, t9⟩ := hI.x6 (by simpa using h); exact ⟨C, e, oA.below b7, fun h => t7 (by simpa using h), fun h => t8 (by simpa using h), fun h => t9 (by simpa using h)⟩, fun h => by obtain ⟨b, e, hz, hb⟩ := hI.x10 (by simpa using h); exact ⟨b, e, hz, (b7.block _ (Array.getElem?_eq_some_iff.1 hb).1).trans hb⟩, fun h => hI.x12 (by simpa using h), hI.bl.trans (b7.mono hI.bl.size), fun h => by have := hI.q7 (by simpa using h); simp [this], fun h => by have := hI.q8 (by simpa using h); simp [this], fun h => by have := hI.q9 (by simpa using h); simp [this], fun h => by have := hI.late (by simpa using h); exact ⟨by simp [this.1], fun i hi => by simp [this.2 i hi]⟩, fun h => by have := hI.late2 (by simpa using h); simp [this]⟩
    · obtain rfl := Option.some.inj hoj
      have h11 : f 11 = false := by
        cases h : f 11 with
        | false => rfl
        | true => exact absurd ((hI.late h).2 2 (by omega)) (by rw [hfj]; simp)
      obtain rfl : wx = wy := by rw [hwx, h11]; rfl
      clear hwx
      have HI2 : Hid _ := And.intro hI (And.intro hCZ hbz)
      clear hI hCZ hbz
      refine step_wpA rfl (wp_load_row 28 (.tmp 4) rfl (w.heap.size) rfl 28 CA (0, 0) _ (HCL.out.1 wx HI2.out.1.bl).1 Tryz.underlying28 rfl SZCA.out ?_)
      refine hK _ _ ⟨_, _, _, _, _, _, _, _, _, _, _, _, wx, rfl, ?_, CZ, bz, fun h => HI2.out.2.1 (by simpa using h), fun h => HI2.out.2.2 (by simpa using h), by simp [h11]⟩
      have hI := HI2.out.1
      exact ⟨fun h => hI.x0 (by simpa using h), fun h => hI.x1 (by simpa using h), fun _ => rfl, fun h => hI.x3 (by simpa using h), fun h => hI.x4 (by simpa using h), fun h => hI.x5 (by simpa using h), fun h => by obtain ⟨C, e, oA, t7, t8, t9⟩ := hI.x6 (by simpa using h); exact ⟨C, e, oA, fun h => t7 (by simpa using h), fun h => t8 (by simpa using h), fun h => t9 (by simpa using h)⟩, fun h => by obtain ⟨b, e, hz, hb⟩ := hI.x10 (by simpa using h); exact ⟨b, e, hz, hb⟩, fun h => hI.x12 (by simpa using h), hI.bl, fun h => by have := hI.q7 (by simpa using h); simp [this], fun h => by have := hI.q8 (by simpa using h); simp [this], fun h => by have := hI.q9 (by simpa using h); simp [this], fun h => by have := hI.late (by simpa using h); exact ⟨by simp [this.1], fun i hi => by simp [this.2 i hi]⟩, fun h => by have := hI.late2 (by simpa using h); simp [this]⟩
    · obtain rfl := Option.some.inj hoj
      have h2_ := hall ⟨2, .data⟩ (by simp) rfl
      have h1_ := hall ⟨1, .chain⟩ (by simp) rfl
      have h11 : f 11 = false := by
        cases h : f 11 with
        | false => rfl
        | true => exact absurd ((hI.late h).2 3 (by omega)) (by rw [hfj]; simp)
      obtain rfl : wx = wy := by rw [hwx, h11]; rfl
      clear hwx
      obtain rfl := hI.x2 h2_
      have HI2 : Hid _ := And.intro hI (And.intro hCZ hbz)
      clear hI hCZ hbz
      go_simp
      go_at_call 7
      refine (TB1.out wx (HERow.below EN1.out.2 (HCL.out.1 wx HI2.out.1.bl).2.2)).mono ?_
      rintro e wq ⟨r, rfl, o7, b7⟩
      refine hK _ _ ⟨_, _, _, _, _, _, _, _, _, _, _, _, wq, rfl, ?_, CZ, bz, fun h => HI2.out.2.1 (by simpa using h), fun h => HI2.out.2.2 (by simpa using h), by simp [h11]⟩
      have hI := HI2.out.1
      exact ⟨fun h => hI.x0 (by simpa using h), fun h => (hI.x1 (by simpa using h)).below b7, fun h => hI.x2 (by simpa using h), fun _ => HEOwns.row o7, fun h => hI.x4 (by simpa using h), fun h => (hI.x5 (by simpa using h)).below b7, fun h => by obtain ⟨C, e, oA, t7, t8, t9⟩ := hI.x6 (by simpa using h); exact ⟨C, e, oA.below b7, fun h => t7 (by simpa using h), fun h => t8 (by simpa using h), fun h => t9 (by simpa using h)⟩, fun h => by obtain ⟨b, e, hz, hb⟩ := hI.x10 (by simpa using h); exact ⟨b, e, hz, (b7.block _ (Array.getElem?_eq_some_iff.1 hb).1).trans hb⟩, fun h => hI.x12 (by simpa using h), hI.bl.trans (b7.mono hI.bl.size), fun h => by have := hI.q7 (by simpa using h); simp [this], fun h => by have := hI.q8 (by simpa using h); simp [this], fun h => by have := hI.q9 (by simpa using h); simp [this], fun h => by have := hI.late (by simpa using h); exact ⟨by simp [this.1], fun i hi => by simp [this.2 i hi]⟩, fun h => by have := hI.late2 (by simpa using h); simp [this]⟩
    · obtain rfl := Option.some.inj hoj
      have h11 : f 11 = false := by
        cases h : f 11 with
        | false => rfl
        | true => exact absurd ((hI.late h).2 4 (by omega)) (by rw [hfj]; simp)
      obtain rfl : wx = wy := by rw [hwx, h11]; rfl
      clear hwx
      have HI2 : Hid _ := And.intro hI (And.intro hCZ hbz)
      clear hI hCZ hbz
      refine step_wpA rfl (wp_load_row 28 (.tmp 5) rfl (w.heap.size + 1) rfl 28 CB (0, 0) _ (HCL.out.1 wx HI2.out.1.bl).2.1 Tryz.underlying28 rfl SZCB.out ?_)
      refine hK _ _ ⟨_, _, _, _, _, _, _, _, _, _, _, _, wx, rfl, ?_, CZ, bz, fun h => HI2.out.2.1 (by simpa using h), fun h => HI2.out.2.2 (by simpa using h), by simp [h11]⟩
      have hI := HI2.out.1
      exact ⟨fun h => hI.x0 (by simpa using h), fun h => hI.x1 (by simpa using h), fun h => hI.x2 (by simpa using h), fun h => hI.x3 (by simpa using h), fun _ => rfl, fun h => hI.x5 (by simpa using h), fun h => by obtain ⟨C, e, oA, t7, t8, t9⟩ := hI.x6 (by simpa using h); exact ⟨C, e, oA, fun h => t7 (by simpa using h), fun h => t8 (by simpa using h), fun h => t9 (by simpa using h)⟩, fun h => by obtain ⟨b, e, hz, hb⟩ := hI.x10 (by simpa using h); exact ⟨b, e, hz, hb⟩, fun h => hI.x12 (by simpa using h), hI.bl, fun h => by have := hI.q7 (by simpa using h); simp [this], fun h => by have := hI.q8 (by simpa using h); simp [this], fun h => by have := hI.q9 (by simpa using h); simp [this], fun h => by have := hI.late (by simpa using h); exact ⟨by simp [this.1], fun i hi => by simp [this.2 i hi]⟩, fun h => by have := hI.late2 (by simpa using h); simp [this]⟩
    · obtain rfl := Option.some.inj hoj
      have h4_ := hall ⟨4, .data⟩ (by simp) rfl
      have h3_ := hall ⟨3, .chain⟩ (by simp) rfl
      have h11 : f 11 = false := by
        cases h : f 11 with
        | false => rfl
        | true => exact absurd ((hI.late h).2 5 (by omega)) (by rw [hfj]; simp)
      obtain rfl : wx = wy := by rw [hwx, h11]; rfl
      clear hwx
      obtain rfl := hI.x4 h4_
      have HI2 : Hid _ := And.intro hI (And.intro hCZ hbz)
      clear hI hCZ hbz
      go_simp
      go_at_call 7
      refine (TB2.out wx (HERow.below EN2.out.2 (HCL.out.1 wx HI2.out.1.bl).2.2)).mono ?_
      rintro e wq ⟨r, rfl, o7, b7⟩
      refine hK _ _ ⟨_, _, _, _, _, _, _, _, _, _, _, _, wq, rfl, ?_, CZ, bz, fun h => HI2.out.2.1 (by simpa using h), fun h => HI2.out.2.2 (by simpa using h), by simp [h11]⟩
      have hI := HI2.out.1
      exact ⟨fun h => hI.x0 (by simpa using h), fun h => (hI.x1 (by simpa using h)).below b7, fun h => hI.x2 (by simpa using h), fun h => (hI.x3 (by simpa using h)).below b7, fun h => hI.x4 (by simpa using h), fun _ => HEOwns.row o7, fun h => by obtain ⟨C, e, oA, t7, t8, t9⟩ := hI.x6 (by simpa using h); exact ⟨C, e, oA.below b7, fun h => t7 (by simpa using h), fun h => t8 (by simpa using h), fun h => t9 (by simpa using h)⟩, fun h => by obtain ⟨b, e, hz, hb⟩ := hI.x10 (by simpa using h); exact ⟨b, e, hz, (b7.block _ (Array.getElem?_eq_some_iff.1 hb).1).trans hb⟩, fun h => hI.x12 (by simpa using h), hI.bl.trans (b7.mono hI.bl.size), fun h => by have := hI.q7 (by simpa using h); simp [this], fun h => by have := hI.q8 (by simpa using h); simp [this], fun h => by have := hI.q9 (by simpa using h); simp [this], fun h => by have := hI.late (by simpa using h); exact ⟨by simp [this.1], fun i hi => by simp [this.2 i hi]⟩, fun h => by have := hI.late2 (by simpa using h); simp [this]⟩
    · obtain rfl := Option.some.inj hoj
      have h1_ := hall ⟨1, .data⟩ (by simp) rfl
      have h3_ := hall ⟨3, .data⟩ (by simp) rfl
      have h5_ := hall ⟨5, .data⟩ (by simp) rfl
      have h11 : f 11 = false := by
        cases h : f 11 with
        | false => rfl
        | true => exact absurd ((hI.late h).2 6 (by omega)) (by rw [hfj]; simp)
      obtain rfl : wx = wy := by rw [hwx, h11]; rfl
      clear hwx
      have HI2 : Hid _ := And.intro hI (And.intro hCZ hbz)
      clear hI hCZ hbz
      go_simp
      have n7 : f 7 = false := by
        cases h : f 7 with
        | false => rfl
        | true => exact absurd (HI2.out.1.q7 h) (by rw [hfj]; simp)
      have n8 : f 8 = false := by
        cases h : f 8 with
        | false => rfl
        | true => exact absurd (HI2.out.1.q8 h) (by rw [n7]; simp)
      have n9 : f 9 = false := by
        cases h : f 9 with
        | false => rfl
        | true => exact absurd (HI2.out.1.q9 h) (by rw [n7]; simp)
      go_at_call 5
      refine (HS.out.1 wx _ _ _ (HI2.out.1.x1 h1_) (HI2.out.1.x3 h3_) (HI2.out.1.x5 h5_)).mono ?_
      rintro e wq ⟨r, rfl, o7, b7⟩
      obtain ⟨C, rfl, -, -⟩ := ag_cells o7
      refine hK _ _ ⟨_, _, _, _, _, _, _, _, _, _, _, _, wq, rfl, ?_, C, bz, fun _ => rfl, fun h => HI2.out.2.2 (by simpa using h), by simp [h11]⟩
      have hI := HI2.out.1
      exact ⟨fun h => hI.x0 (by simpa using h), fun h => (hI.x1 (by simpa using h)).below b7, fun h => hI.x2 (by simpa using h), fun h => (hI.x3 (by simpa using h)).below b7, fun h => hI.x4 (by simpa using h), fun h => (hI.x5 (by simpa using h)).below b7, fun _ => ⟨C, rfl, AGOwns.mono o7 hI.bl.size, fun h => by simp [n7] at h, fun h => by simp [n8] at h, fun h => by simp [n9] at h⟩, fun h => by obtain ⟨b, e, hz, hb⟩ := hI.x10 (by simpa using h); exact ⟨b, e, hz, (b7.block _ (Array.getElem?_eq_some_iff.1 hb).1).trans hb⟩, fun h => hI.x12 (by simpa using h), hI.bl.trans (b7.mono hI.bl.size), fun h => by have := hI.q7 (by simpa using h); simp [this], fun h => by have := hI.q8 (by simpa using h); simp [this], fun h => by have := hI.q9 (by simpa using h); simp [this], fun h => by have := hI.late (by simpa using h); exact ⟨by simp [this.1], fun i hi => by simp [this.2 i hi]⟩, fun h => by have := hI.late2 (by simpa using h); simp [this]⟩
    · obtain rfl := Option.some.inj hoj
      have h6_ := hall ⟨6, .data⟩ (by simp) rfl
      have h11 : f 11 = false := by
        cases h : f 11 with
        | false => rfl
        | true => exact absurd ((hI.late h).2 7 (by omega)) (by rw [hfj]; simp)
      obtain rfl : wx = wy := by rw [hwx, h11]; rfl
      clear hwx
      obtain ⟨C, e40, oA, t7, t8, t9⟩ := hI.x6 h6_
      subst e40
      have HI2 : Hid _ := And.intro hI (And.intro hCZ hbz)
      clear hI hCZ hbz
      go_simp
      refine hK _ _ ⟨_, _, _, _, _, _, _, _, _, _, _, _, wx, rfl, ?_, CZ, bz, fun h => HI2.out.2.1 (by simpa using h), fun h => HI2.out.2.2 (by simpa using h), by simp [h11]⟩
      have hI := HI2.out.1
      exact ⟨fun h => hI.x0 (by simpa using h), fun h => hI.x1 (by simpa using h), fun h => hI.x2 (by simpa using h), fun h => hI.x3 (by simpa using h), fun h => hI.x4 (by simpa using h), fun h => hI.x5 (by simpa using h), fun _ => ⟨C, rfl, oA, fun _ => rfl, fun h => (by have := hI.q8 (by simpa using h); rw [hfj] at this; cases this), fun h => (by have := hI.q9 (by simpa using h); rw [hfj] at this; cases this)⟩, fun h => by obtain ⟨b, e, hz, hb⟩ := hI.x10 (by simpa using h); exact ⟨b, e, hz, hb⟩, fun h => hI.x12 (by simpa using h), hI.bl, fun _ => by simp [h6_], fun h => by have := hI.q8 (by simpa using h); simp [this], fun h => by have := hI.q9 (by simpa using h); simp [this], fun h => by have := hI.late (by simpa using h); exact ⟨by simp [this.1], fun i hi => by simp [this.2 i hi]⟩, fun h => by have := hI.late2 (by simpa using h); simp [this]⟩
    · obtain rfl := Option.some.inj hoj
      have h7_ := hall ⟨7, .data⟩ (by simp) rfl
      have h11 : f 11 = false := by
        cases h : f 11 with
        | false => rfl
        | true => exact absurd ((hI.late h).2 8 (by omega)) (by rw [hfj]; simp)
      obtain rfl : wx = wy := by rw [hwx, h11]; rfl
      clear hwx
      have h6_ := hI.q7 h7_
      obtain ⟨C, e40, oA, t7, t8, t9⟩ := hI.x6 h6_
      subst e40
      have e33 := t7 h7_
      subst e33
      have HI2 : Hid _ := And.intro hI (And.intro hCZ hbz)
      clear hI hCZ hbz
      go_simp
      refine hK _ _ ⟨_, _, _, _, _, _, _, _, _, _, _, _, wx, rfl, ?_, CZ, bz, fun h => HI2.out.2.1 (by simpa using h), fun h => HI2.out.2.2 (by simpa using h), by simp [h11]⟩
      have hI := HI2.out.1
      exact ⟨fun h => hI.x0 (by simpa using h), fun h => hI.x1 (by simpa using h), fun h => hI.x2 (by simpa using h), fun h => hI.x3 (by simpa using h), fun h => hI.x4 (by simpa using h), fun h => hI.x5 (by simpa using h), fun _ => ⟨C, rfl, oA, fun _ => rfl, fun _ => rfl, fun h => t9 (by simpa using h)⟩, fun h => by obtain ⟨b, e, hz, hb⟩ := hI.x10 (by simpa using h); exact ⟨b, e, hz, hb⟩, fun h => hI.x12 (by simpa using h), hI.bl, fun h => by have := hI.q7 (by simpa using h); simp [this], fun _ => by simp [h7_], fun h => by have := hI.q9 (by simpa using h); simp [this], fun h => by have := hI.late (by simpa using h); exact ⟨by simp [this.1], fun i hi => by simp [this.2 i hi]⟩, fun h => by have := hI.late2 (by simpa using h); simp [this]⟩
    · obtain rfl := Option.some.inj hoj
      have h7_ := hall ⟨7, .data⟩ (by simp) rfl
      have h6_ := hI.q7 h7_
      obtain ⟨C, e40, oA, t7, t8, t9⟩ := hI.x6 h6_
      subst e40
      have e33 := t7 h7_
      subst e33
      have HI2 : Hid _ := And.intro hI (And.intro hCZ (And.intro hbz hwx))
      clear hI hCZ hbz hwx
      go_simp
      refine hK _ _ ⟨_, _, _, _, _, _, _, _, _, _, _, _, wy, rfl, ?_, CZ, bz, fun h => HI2.out.2.1 (by simpa using h), fun h => HI2.out.2.2.1 (by simpa using h), by rw [HI2.out.2.2.2]; simp⟩
      have hI := HI2.out.1
      exact ⟨fun h => hI.x0 (by simpa using h), fun h => hI.x1 (by simpa using h), fun h => hI.x2 (by simpa using h), fun h => hI.x3 (by simpa using h), fun h => hI.x4 (by simpa using h), fun h => hI.x5 (by simpa using h), fun _ => ⟨C, rfl, oA, fun _ => rfl, fun h => t8 (by simpa using h), fun _ => rfl⟩, fun h => by obtain ⟨b, e, hz, hb⟩ := hI.x10 (by simpa using h); exact ⟨b, e, hz, hb⟩, fun h => hI.x12 (by simpa using h), hI.bl, fun h => by have := hI.q7 (by simpa using h); simp [this], fun h => by have := hI.q8 (by simpa using h); simp [this], fun _ => by simp [h7_], fun h => by have := hI.late (by simpa using h); exact ⟨by simp [this.1], fun i hi => by simp [this.2 i hi]⟩, fun h => by have := hI.late2 (by simpa using h); simp [this.1]⟩
    · obtain rfl := Option.some.inj hoj
      have h11 : f 11 = false := by
        cases h : f 11 with
        | false => rfl
        | true => exact absurd (hI.late h).1 (by rw [hfj]; simp)
      obtain rfl : wx = wy := by rw [hwx, h11]; rfl
      clear hwx
      have HI2 : Hid _ := And.intro hI (And.intro hCZ hbz)
      clear hI hCZ hbz
      go_simp
      refine hK _ _ ⟨_, _, _, _, _, _, _, _, _, _, _, _, wx.alloc (.cells #[.int .i64 0, .string ⟨#[]⟩, .slice none 0 0, .slice none 0 0, .slice none 0 0, .slice none 0 0, .slice none 0 0] 31), rfl, ?_, CZ, wx.heap.size, fun h => HI2.out.2.1 (by simpa using h), fun _ => rfl, by simp [h11]⟩
      have hI := HI2.out.1
      have b7 : Below wx.heap.size wx (wx.alloc (.cells #[.int .i64 0, .string ⟨#[]⟩, .slice none 0 0, .slice none 0 0, .slice none 0 0, .slice none 0 0, .slice none 0 0] 31)) := (Below.refl _ _).alloc (Nat.le_refl _) _
      exact ⟨fun h => hI.x0 (by simpa using h), fun h => (hI.x1 (by simpa using h)).below b7, fun h => hI.x2 (by simpa using h), fun h => (hI.x3 (by simpa using h)).below b7, fun h => hI.x4 (by simpa using h), fun h => (hI.x5 (by simpa using h)).below b7, fun h => by obtain ⟨C, e, oA, t7, t8, t9⟩ := hI.x6 (by simpa using h); exact ⟨C, e, oA.below b7, fun h => t7 (by simpa using h), fun h => t8 (by simpa using h), fun h => t9 (by simpa using h)⟩, fun _ => ⟨_, rfl, hI.bl.size, heap_alloc_new wx _⟩, fun h => hI.x12 (by simpa using h), hI.bl.trans (b7.mono hI.bl.size), fun h => by have := hI.q7 (by simpa using h); simp [this], fun h => by have := hI.q8 (by simpa using h); simp [this], fun h => by have := hI.q9 (by simpa using h); simp [this], fun h => by have := hI.late (by simpa using h); exact ⟨by simp [this.1], fun i hi => by simp [this.2 i hi]⟩, fun h => by have := hI.late2 (by simpa using h); simp [this]⟩
    · obtain rfl := Option.some.inj hoj
      have h10_ := hall ⟨10, .data⟩ (by simp) rfl
      have h8_ := hall ⟨8, .data⟩ (by simp) rfl
      have h6_ := hall ⟨6, .chain⟩ (by simp) rfl
      have h11 : f 11 = false := hfj
      obtain rfl : wx = wy := by rw [hwx, h11]; rfl
      clear hwx
      have h7_ := hI.q8 h8_
      obtain ⟨C, e40, oA, t7, t8, t9⟩ := hI.x6 h6_
      subst e40
      have e33 := t7 h7_
      subst e33
      have e41 := t8 h8_
      subst e41
      obtain ⟨b, e8, hz, hb⟩ := hI.x10 h10_
      subst e8
      have eC := hCZ h6_
      obtain rfl : C = CZ := by cases eC; rfl
      have eb := hbz h10_
      obtain rfl : b = bz := by cases eb; rfl
      obtain ⟨C2, eC2, cs7, call⟩ := ag_cells oA
      obtain rfl : C = C2 := by cases eC2; rfl
      have HI2 : Hid _ := And.intro hI (And.intro hCZ hbz)
      clear hI hCZ hbz
      refine step_wpA rfl (wp_store_row 31 (.tmp 8) (.tmp 41) rfl b C rfl rfl 31 #[.int .i64 0, .string ⟨#[]⟩, .slice none 0 0, .slice none 0 0, .slice none 0 0, .slice none 0 0, .slice none 0 0] hb (by rw [cs7]; exact infoAG7) (by rw [cs7]; rfl) call ?_)
      refine hK _ _ ⟨_, _, _, _, _, _, _, _, _, _, _, _, wx, rfl, ?_, C, b, fun h => HI2.out.2.1 (by simpa using h), fun h => HI2.out.2.2 (by simpa using h), by simp⟩
      have hI := HI2.out.1
      have hAll : ∀ i, i < 9 → f i = true := by
        intro i hi
        obtain rfl | rfl | rfl | rfl | rfl | rfl | rfl | rfl | rfl : i = 0 ∨ i = 1 ∨ i = 2 ∨ i = 3 ∨ i = 4 ∨ i = 5 ∨ i = 6 ∨ i = 7 ∨ i = 8 := by omega
        all_goals exact hall ⟨_, .phase⟩ (by simp) rfl
      exact ⟨fun h => hI.x0 (by simpa using h), fun h => hI.x1 (by simpa using h), fun h => hI.x2 (by simpa using h), fun h => hI.x3 (by simpa using h), fun h => hI.x4 (by simpa using h), fun h => hI.x5 (by simpa using h), fun h => by obtain ⟨C, e, oA, t7, t8, t9⟩ := hI.x6 (by simpa using h); exact ⟨C, e, oA, fun h => t7 (by simpa using h), fun h => t8 (by simpa using h), fun h => t9 (by simpa using h)⟩, fun h => by obtain ⟨b, e, hz, hb⟩ := hI.x10 (by simpa using h); exact ⟨b, e, hz, hb⟩, fun h => hI.x12 (by simpa using h), hI.bl, fun h => by have := hI.q7 (by simpa using h); simp [this], fun h => by have := hI.q8 (by simpa using h); simp [this], fun h => by have := hI.q9 (by simpa using h); simp [this], fun _ => ⟨by simp [h10_], fun i hi => by simp [hAll i hi]⟩, fun h => by have := hI.late2 (by simpa using h); simp [this]⟩
    · obtain rfl := Option.some.inj hoj
      have h9_ := hall ⟨9, .data⟩ (by simp) rfl
      have h11_ := hall ⟨11, .chain⟩ (by simp) rfl
      have h11_ := h11_
      have h7_ := hI.q9 h9_
      have h6_ := hI.q7 h7_
      obtain ⟨C, e40, oA, t7, t8, t9⟩ := hI.x6 h6_
      have e42 := t9 h9_
      subst e42
      clear e40 oA t7 t8 t9
      have HI2 : Hid _ := And.intro hI (And.intro hCZ (And.intro hbz hwx))
      clear hI hCZ hbz hwx
      go_simp
      refine hK _ _ ⟨_, _, _, _, _, _, _, _, _, _, _, _, wy, rfl, ?_, CZ, bz, fun h => HI2.out.2.1 (by simpa using h), fun h => HI2.out.2.2.1 (by simpa using h), by rw [HI2.out.2.2.2]; simp⟩
      have hI := HI2.out.1
      exact ⟨fun h => hI.x0 (by simpa using h), fun h => hI.x1 (by simpa using h), fun h => hI.x2 (by simpa using h), fun h => hI.x3 (by simpa using h), fun h => hI.x4 (by simpa using h), fun h => hI.x5 (by simpa using h), fun h => by obtain ⟨C, e, oA, t7, t8, t9⟩ := hI.x6 (by simpa using h); exact ⟨C, e, oA, fun h => t7 (by simpa using h), fun h => t8 (by simpa using h), fun h => t9 (by simpa using h)⟩, fun h => by obtain ⟨b, e, hz, hb⟩ := hI.x10 (by simpa using h); exact ⟨b, e, hz, hb⟩, fun _ => rfl, hI.bl, fun h => by have := hI.q7 (by simpa using h); simp [this], fun h => by have := hI.q8 (by simpa using h); simp [this], fun h => by have := hI.q9 (by simpa using h); simp [this], fun h => by have := hI.late (by simpa using h); exact ⟨by simp [this.1], fun i hi => by simp [this.2 i hi]⟩, fun _ => by simp [h11_, h9_]⟩
  case done =>
  intro f a wx hInv hall
  obtain ⟨u34, u35, u36, u37, u38, u39, u40, u33, u41, u42, u8, u9, wy, rfl, hI, CZ, bz, hCZ, hbz, hwx⟩ := hInv
  obtain ⟨C, e40, oA, t7, t8, t9⟩ := hI.x6 (hall 6 (by decide))
  have eC := hCZ (hall 6 (by decide))
  obtain rfl : C = CZ := by rw [e40] at eC; cases eC; rfl
  obtain ⟨b, e8, hz, hb⟩ := hI.x10 (hall 10 (by decide))
  have eb := hbz (hall 10 (by decide))
  obtain rfl : b = bz := by rw [e8] at eb; cases eb; rfl
  have e9 := hI.x12 (hall 12 (by decide))
  have e33 := t7 (hall 7 (by decide))
  have e41 := t8 (hall 8 (by decide))
  have e42 := t9 (hall 9 (by decide))
  rw [hall 11 (by decide), if_pos rfl] at hwx
  obtain ⟨CS, eC2, cs7, call⟩ := ag_cells oA
  obtain rfl : C = CS := by cases eC2; rfl
  have SZCS : Hid ((Tryz.prog.info? 31).map (·.size) = some C.size) := by rw [cs7]; exact infoAG7
  have kS : wx.heap[b]? = some (.cells C 31 (0, 0)) := by rw [hwx]; exact setRow_heap _ _ _ _ _ _ hb
  have oo : AGOwns wx w2.heap.size (.agg C) z := by rw [hwx]; exact ag_blk oA (setRow_grownA _ _ _) hb
  have bb : Below w2.heap.size w2 wx := by rw [hwx]; exact below_setRow hI.bl hz _
  obtain ⟨bS, ebb⟩ : ∃ x, x = b := ⟨_, rfl⟩
  obtain ⟨CS, eCC⟩ : ∃ x, x = C := ⟨_, rfl⟩
  rw [← ebb] at kS hz e8
  rw [← eCC] at kS oo SZCS e41 e40
  have lbS : bS < wx.heap.size := (Array.getElem?_eq_some_iff.1 kS).1
  subst e9
  subst e8
  dsimp only
  clear hI e33 e41 e42 e40 eC eb hCZ hbz oA hb eC2 cs7 call t7 t8 t9 hall eCC ebb HCL
  obtain ⟨w3, ew⟩ : ∃ x, x = wx := ⟨_, rfl⟩
  rw [← ew] at kS oo bb lbS ⊢
  clear ew hwx
  have z_3 : w2.heap.size ≤ w3.heap.size := bb.size
  have bA_3 : Hid (w3.heap[w.heap.size]? = some (.cells CA 28 (0, 0))) := (bb.block _ (Array.getElem?_eq_some_iff.1 bA_2.out).1).trans bA_2.out
  have bB_3 : Hid (w3.heap[(w.heap.size + 1)]? = some (.cells CB 28 (0, 0))) := (bb.block _ (Array.getElem?_eq_some_iff.1 bB_2.out).1).trans bB_2.out
  have C_3 : Hid _ := And.intro (C_2.out.1.trans (bb.mono C_2.out.1.size)) True.intro
  clear bA_2 bB_2 C_2
  have bS_3 : Hid (w3.heap[bS]? = some (.cells CS 31 (0, 0))) := kS
  have AS_3 : Hid _ := And.intro oo (fun g (hg : AGBlk _ g) => AGOwns.blk oo g hg)
  clear kS oo bb
  go_wp2_with fail
  go_at_call 6
  refine (TB0.out _ (EN0.out.2.below C_3.out.1)).mono ?_
  rintro e w4 ⟨X0, rfl, oX, bX⟩
  have z_4 : w3.heap.size ≤ w4.heap.size := bX.size
  have bA_4 : Hid (w4.heap[w.heap.size]? = some (.cells CA 28 (0, 0))) := (bX.block _ (Array.getElem?_eq_some_iff.1 bA_3.out).1).trans bA_3.out
  have bB_4 : Hid (w4.heap[(w.heap.size + 1)]? = some (.cells CB 28 (0, 0))) := (bX.block _ (Array.getElem?_eq_some_iff.1 bB_3.out).1).trans bB_3.out
  have bS_4 : Hid (w4.heap[bS]? = some (.cells CS 31 (0, 0))) := (bX.block _ (Array.getElem?_eq_some_iff.1 bS_3.out).1).trans bS_3.out
  have AS_4 : Hid _ := And.intro (AGOwns.below AS_3.out.1 bX) AS_3.out.2
  have C_4 : Hid _ := And.intro (C_3.out.1.trans (bX.mono C_3.out.1.size)) True.intro
  clear bA_3 bB_3 bS_3 AS_3 C_3
  have X0_4 : Hid _ := And.intro oX (fun g (hg : Value.ownBlock _ = some g) => oX.lt g hg)
  clear oX bX
  obtain ⟨X0a, X0c, eX0⟩ := own_formA X0_4.out.1
  subst eX0
  rw [← EN0.out.1] at X0_4 ⊢
  go_wp2_with (refine wpList_load_row rfl 28 _ rfl w.heap.size rfl 28 CA (0, 0) _ bA_4.out Tryz.underlying28 rfl SZCA.out ?_)
  go_at_call 7
  refine (TB1.out _ (HERow.below EN1.out.2 C_4.out.1)).mono ?_
  rintro e w5 ⟨X1, rfl, oX, bX⟩
  have z_5 : w4.heap.size ≤ w5.heap.size := bX.size
  have bA_5 : Hid (w5.heap[w.heap.size]? = some (.cells CA 28 (0, 0))) := (bX.block _ (Array.getElem?_eq_some_iff.1 bA_4.out).1).trans bA_4.out
  have bB_5 : Hid (w5.heap[(w.heap.size + 1)]? = some (.cells CB 28 (0, 0))) := (bX.block _ (Array.getElem?_eq_some_iff.1 bB_4.out).1).trans bB_4.out
  have bS_5 : Hid (w5.heap[bS]? = some (.cells CS 31 (0, 0))) := (bX.block _ (Array.getElem?_eq_some_iff.1 bS_4.out).1).trans bS_4.out
  have AS_5 : Hid _ := And.intro (AGOwns.below AS_4.out.1 bX) AS_4.out.2
  have X0_5 : Hid _ := And.intro (owns_below X0_4.out.1 bX) X0_4.out.2
  have C_5 : Hid _ := And.intro (C_4.out.1.trans (bX.mono C_4.out.1.size)) True.intro
  clear bA_4 bB_4 bS_4 AS_4 X0_4 C_4
  obtain ⟨CX1, eCX1, sCX1⟩ := he_cells (HEOwns.row oX)
  subst eCX1
  have SZCX1 : Hid ((Tryz.prog.info? 37).map (·.size) = some CX1.size) := by rw [sCX1]; exact infoHelIA
  have OCX1 : Hid (CX1.all (·.oneCell') = true) := he_one oX
  have LCX1 : Hid (CX1.size = 18) := sCX1
  have X1_5 : Hid _ := And.intro oX (fun g (hg : HEBlk _ g) => HEOwns.blk oX g hg)
  clear oX bX sCX1
  have al : Below w5.heap.size w5 (w5.alloc (.cells CX1 37)) := (Below.refl _ _).alloc (Nat.le_refl _) _
  have z_6 : w5.heap.size ≤ (w5.alloc (.cells CX1 37)).heap.size := al.size
  have bA_6 : Hid ((w5.alloc (.cells CX1 37)).heap[w.heap.size]? = some (.cells CA 28 (0, 0))) := (al.block _ (Array.getElem?_eq_some_iff.1 bA_5.out).1).trans bA_5.out
  have bB_6 : Hid ((w5.alloc (.cells CX1 37)).heap[(w.heap.size + 1)]? = some (.cells CB 28 (0, 0))) := (al.block _ (Array.getElem?_eq_some_iff.1 bB_5.out).1).trans bB_5.out
  have bS_6 : Hid ((w5.alloc (.cells CX1 37)).heap[bS]? = some (.cells CS 31 (0, 0))) := (al.block _ (Array.getElem?_eq_some_iff.1 bS_5.out).1).trans bS_5.out
  have AS_6 : Hid _ := And.intro (AGOwns.below AS_5.out.1 al) AS_5.out.2
  have X0_6 : Hid _ := And.intro (owns_below X0_5.out.1 al) X0_5.out.2
  have X1_6 : Hid _ := And.intro (HEOwns.below X1_5.out.1 al) X1_5.out.2
  have C_6 : Hid _ := And.intro (C_5.out.1.trans (al.mono C_5.out.1.size)) True.intro
  clear bA_5 bB_5 bS_5 AS_5 X0_5 X1_5 C_5
  have b1_6 : Hid ((w5.alloc (.cells CX1 37)).heap[w5.heap.size]? = some (.cells CX1 37 (0, 0))) := heap_alloc_new w5 _
  have y_6 : (w5.alloc (.cells CX1 37)).heap.size = w5.heap.size + 1 := by simp
  clear al
  go_wp2_with (first | (refine wpList_store_row rfl 37 _ _ rfl w5.heap.size CX1 rfl rfl 37 _ (heap_alloc_new w5 _) SZCX1.out (by rw [LCX1.out]; rfl) OCX1.out ?_; rw [setRow_newA]) | (refine wpList_load_row rfl 28 _ rfl (w.heap.size + 1) rfl 28 CB (0, 0) _ bB_6.out Tryz.underlying28 rfl SZCB.out ?_))
  go_at_call 7
  refine (TB2.out _ (HERow.below EN2.out.2 C_6.out.1)).mono ?_
  rintro e w6 ⟨X2, rfl, oX, bX⟩
  have z_7 : (w5.alloc (.cells CX1 37)).heap.size ≤ w6.heap.size := bX.size
  have bA_7 : Hid (w6.heap[w.heap.size]? = some (.cells CA 28 (0, 0))) := (bX.block _ (Array.getElem?_eq_some_iff.1 bA_6.out).1).trans bA_6.out
  have bB_7 : Hid (w6.heap[(w.heap.size + 1)]? = some (.cells CB 28 (0, 0))) := (bX.block _ (Array.getElem?_eq_some_iff.1 bB_6.out).1).trans bB_6.out
  have bS_7 : Hid (w6.heap[bS]? = some (.cells CS 31 (0, 0))) := (bX.block _ (Array.getElem?_eq_some_iff.1 bS_6.out).1).trans bS_6.out
  have AS_7 : Hid _ := And.intro (AGOwns.below AS_6.out.1 bX) AS_6.out.2
  have X0_7 : Hid _ := And.intro (owns_below X0_6.out.1 bX) X0_6.out.2
  have X1_7 : Hid _ := And.intro (HEOwns.below X1_6.out.1 bX) X1_6.out.2
  have b1_7 : Hid (w6.heap[w5.heap.size]? = some (.cells CX1 37 (0, 0))) := (bX.block _ (Array.getElem?_eq_some_iff.1 b1_6.out).1).trans b1_6.out
  have C_7 : Hid _ := And.intro (C_6.out.1.trans (bX.mono C_6.out.1.size)) True.intro
  clear bA_6 bB_6 bS_6 AS_6 X0_6 X1_6 b1_6 C_6
  obtain ⟨CX2, eCX2, sCX2⟩ := he_cells (HEOwns.row oX)
  subst eCX2
  have SZCX2 : Hid ((Tryz.prog.info? 37).map (·.size) = some CX2.size) := by rw [sCX2]; exact infoHelIA
  have OCX2 : Hid (CX2.all (·.oneCell') = true) := he_one oX
  have LCX2 : Hid (CX2.size = 18) := sCX2
  have X2_7 : Hid _ := And.intro oX (fun g (hg : HEBlk _ g) => HEOwns.blk oX g hg)
  clear oX bX sCX2
  have al : Below w6.heap.size w6 (w6.alloc (.cells CX2 37)) := (Below.refl _ _).alloc (Nat.le_refl _) _
  have z_8 : w6.heap.size ≤ (w6.alloc (.cells CX2 37)).heap.size := al.size
  have bA_8 : Hid ((w6.alloc (.cells CX2 37)).heap[w.heap.size]? = some (.cells CA 28 (0, 0))) := (al.block _ (Array.getElem?_eq_some_iff.1 bA_7.out).1).trans bA_7.out
  have bB_8 : Hid ((w6.alloc (.cells CX2 37)).heap[(w.heap.size + 1)]? = some (.cells CB 28 (0, 0))) := (al.block _ (Array.getElem?_eq_some_iff.1 bB_7.out).1).trans bB_7.out
  have bS_8 : Hid ((w6.alloc (.cells CX2 37)).heap[bS]? = some (.cells CS 31 (0, 0))) := (al.block _ (Array.getElem?_eq_some_iff.1 bS_7.out).1).trans bS_7.out
  have AS_8 : Hid _ := And.intro (AGOwns.below AS_7.out.1 al) AS_7.out.2
  have X0_8 : Hid _ := And.intro (owns_below X0_7.out.1 al) X0_7.out.2
  have X1_8 : Hid _ := And.intro (HEOwns.below X1_7.out.1 al) X1_7.out.2
  have b1_8 : Hid ((w6.alloc (.cells CX2 37)).heap[w5.heap.size]? = some (.cells CX1 37 (0, 0))) := (al.block _ (Array.getElem?_eq_some_iff.1 b1_7.out).1).trans b1_7.out
  have X2_8 : Hid _ := And.intro (HEOwns.below X2_7.out.1 al) X2_7.out.2
  have C_8 : Hid _ := And.intro (C_7.out.1.trans (al.mono C_7.out.1.size)) True.intro
  clear bA_7 bB_7 bS_7 AS_7 X0_7 X1_7 b1_7 X2_7 C_7
  have b2_8 : Hid ((w6.alloc (.cells CX2 37)).heap[w6.heap.size]? = some (.cells CX2 37 (0, 0))) := heap_alloc_new w6 _
  have y_8 : (w6.alloc (.cells CX2 37)).heap.size = w6.heap.size + 1 := by simp
  clear al
  go_wp2_with (first | (refine wpList_store_row rfl 37 _ _ rfl w6.heap.size CX2 rfl rfl 37 _ (heap_alloc_new w6 _) SZCX2.out (by rw [LCX2.out]; rfl) OCX2.out ?_; rw [setRow_newA]) | (refine wpList_load_row rfl 37 _ rfl w5.heap.size rfl 37 CX1 (0, 0) _ b1_8.out Tryz.underlying37 rfl SZCX1.out ?_) | (refine wpList_load_row rfl 37 _ rfl w6.heap.size rfl 37 CX2 (0, 0) _ b2_8.out Tryz.underlying37 rfl SZCX2.out ?_))
  go_at_call 8
  refine (HI.out.1 _ _ _ _ (HV.out.1 _ C_8.out.1) (rowNA X0_8.out.1 EN0.out.1) (HEOwns.row X1_8.out.1) (HEOwns.row X2_8.out.1)).mono ?_
  rintro e w7 ⟨G, rfl, oG, bG⟩
  have z_9 : (w6.alloc (.cells CX2 37)).heap.size ≤ w7.heap.size := bG.size
  have bA_9 : Hid (w7.heap[w.heap.size]? = some (.cells CA 28 (0, 0))) := (bG.block _ (Array.getElem?_eq_some_iff.1 bA_8.out).1).trans bA_8.out
  have bB_9 : Hid (w7.heap[(w.heap.size + 1)]? = some (.cells CB 28 (0, 0))) := (bG.block _ (Array.getElem?_eq_some_iff.1 bB_8.out).1).trans bB_8.out
  have bS_9 : Hid (w7.heap[bS]? = some (.cells CS 31 (0, 0))) := (bG.block _ (Array.getElem?_eq_some_iff.1 bS_8.out).1).trans bS_8.out
  have AS_9 : Hid _ := And.intro (AGOwns.below AS_8.out.1 bG) AS_8.out.2
  have X0_9 : Hid _ := And.intro (owns_below X0_8.out.1 bG) X0_8.out.2
  have X1_9 : Hid _ := And.intro (HEOwns.below X1_8.out.1 bG) X1_8.out.2
  have b1_9 : Hid (w7.heap[w5.heap.size]? = some (.cells CX1 37 (0, 0))) := (bG.block _ (Array.getElem?_eq_some_iff.1 b1_8.out).1).trans b1_8.out
  have X2_9 : Hid _ := And.intro (HEOwns.below X2_8.out.1 bG) X2_8.out.2
  have b2_9 : Hid (w7.heap[w6.heap.size]? = some (.cells CX2 37 (0, 0))) := (bG.block _ (Array.getElem?_eq_some_iff.1 b2_8.out).1).trans b2_8.out
  have C_9 : Hid _ := And.intro (C_8.out.1.trans (bG.mono C_8.out.1.size)) True.intro
  clear bA_8 bB_8 bS_8 AS_8 X0_8 X1_8 b1_8 X2_8 b2_8 C_8
  obtain ⟨CG, eCG, sCG, oCG⟩ := ag_cells oG
  subst eCG
  have SZCG : Hid ((Tryz.prog.info? 31).map (·.size) = some CG.size) := by rw [sCG]; exact infoAG7
  have OCG : Hid (CG.all (·.oneCell') = true) := oCG
  have LCG : Hid (CG.size = 7) := sCG
  have AG_9 : Hid _ := And.intro oG (fun g (hg : AGBlk _ g) => AGOwns.blk oG g hg)
  clear oG bG sCG oCG
  have al : Below w7.heap.size w7 (w7.alloc (.cells CG 31)) := (Below.refl _ _).alloc (Nat.le_refl _) _
  have z_10 : w7.heap.size ≤ (w7.alloc (.cells CG 31)).heap.size := al.size
  have bA_10 : Hid ((w7.alloc (.cells CG 31)).heap[w.heap.size]? = some (.cells CA 28 (0, 0))) := (al.block _ (Array.getElem?_eq_some_iff.1 bA_9.out).1).trans bA_9.out
  have bB_10 : Hid ((w7.alloc (.cells CG 31)).heap[(w.heap.size + 1)]? = some (.cells CB 28 (0, 0))) := (al.block _ (Array.getElem?_eq_some_iff.1 bB_9.out).1).trans bB_9.out
  have bS_10 : Hid ((w7.alloc (.cells CG 31)).heap[bS]? = some (.cells CS 31 (0, 0))) := (al.block _ (Array.getElem?_eq_some_iff.1 bS_9.out).1).trans bS_9.out
  have AS_10 : Hid _ := And.intro (AGOwns.below AS_9.out.1 al) AS_9.out.2
  have X0_10 : Hid _ := And.intro (owns_below X0_9.out.1 al) X0_9.out.2
  have X1_10 : Hid _ := And.intro (HEOwns.below X1_9.out.1 al) X1_9.out.2
  have b1_10 : Hid ((w7.alloc (.cells CG 31)).heap[w5.heap.size]? = some (.cells CX1 37 (0, 0))) := (al.block _ (Array.getElem?_eq_some_iff.1 b1_9.out).1).trans b1_9.out
  have X2_10 : Hid _ := And.intro (HEOwns.below X2_9.out.1 al) X2_9.out.2
  have b2_10 : Hid ((w7.alloc (.cells CG 31)).heap[w6.heap.size]? = some (.cells CX2 37 (0, 0))) := (al.block _ (Array.getElem?_eq_some_iff.1 b2_9.out).1).trans b2_9.out
  have AG_10 : Hid _ := And.intro (AGOwns.below AG_9.out.1 al) AG_9.out.2
  have C_10 : Hid _ := And.intro (C_9.out.1.trans (al.mono C_9.out.1.size)) True.intro
  clear bA_9 bB_9 bS_9 AS_9 X0_9 X1_9 b1_9 X2_9 b2_9 AG_9 C_9
  have bG_10 : Hid ((w7.alloc (.cells CG 31)).heap[w7.heap.size]? = some (.cells CG 31 (0, 0))) := heap_alloc_new w7 _
  have y_10 : (w7.alloc (.cells CG 31)).heap.size = w7.heap.size + 1 := by simp
  clear al
  go_wp2_with (first | (refine wpList_store_row rfl 31 _ _ rfl w7.heap.size CG rfl rfl 31 _ (heap_alloc_new w7 _) SZCG.out (by rw [LCG.out]; rfl) OCG.out ?_; rw [setRow_newA]) | (refine wpList_load_row rfl 31 _ rfl w7.heap.size rfl 31 CG (0, 0) _ bG_10.out Tryz.underlying31 rfl SZCG.out ?_) | (refine wpList_load_row rfl 31 _ rfl bS rfl 31 CS (0, 0) _ bS_10.out Tryz.underlying31 rfl SZCS.out ?_))
  go_at_call 9
  refine (eqAg_same _ _ z _ (AGOwns.row AG_10.out.1) (AGOwns.row AS_10.out.1) (ag_small LR.out.1)).mono ?_
  rintro e w8 ⟨rfl, bq⟩
  have z_11 : (w7.alloc (.cells CG 31)).heap.size ≤ w8.heap.size := bq.size
  have bA_11 : Hid (w8.heap[w.heap.size]? = some (.cells CA 28 (0, 0))) := (bq.block _ (Array.getElem?_eq_some_iff.1 bA_10.out).1).trans bA_10.out
  have bB_11 : Hid (w8.heap[(w.heap.size + 1)]? = some (.cells CB 28 (0, 0))) := (bq.block _ (Array.getElem?_eq_some_iff.1 bB_10.out).1).trans bB_10.out
  have bS_11 : Hid (w8.heap[bS]? = some (.cells CS 31 (0, 0))) := (bq.block _ (Array.getElem?_eq_some_iff.1 bS_10.out).1).trans bS_10.out
  have AS_11 : Hid _ := And.intro (AGOwns.below AS_10.out.1 bq) AS_10.out.2
  have X0_11 : Hid _ := And.intro (owns_below X0_10.out.1 bq) X0_10.out.2
  have X1_11 : Hid _ := And.intro (HEOwns.below X1_10.out.1 bq) X1_10.out.2
  have b1_11 : Hid (w8.heap[w5.heap.size]? = some (.cells CX1 37 (0, 0))) := (bq.block _ (Array.getElem?_eq_some_iff.1 b1_10.out).1).trans b1_10.out
  have X2_11 : Hid _ := And.intro (HEOwns.below X2_10.out.1 bq) X2_10.out.2
  have b2_11 : Hid (w8.heap[w6.heap.size]? = some (.cells CX2 37 (0, 0))) := (bq.block _ (Array.getElem?_eq_some_iff.1 b2_10.out).1).trans b2_10.out
  have AG_11 : Hid _ := And.intro (AGOwns.below AG_10.out.1 bq) AG_10.out.2
  have bG_11 : Hid (w8.heap[w7.heap.size]? = some (.cells CG 31 (0, 0))) := (bq.block _ (Array.getElem?_eq_some_iff.1 bG_10.out).1).trans bG_10.out
  have C_11 : Hid _ := And.intro (C_10.out.1.trans (bq.mono C_10.out.1.size)) True.intro
  clear bA_10 bB_10 bS_10 AS_10 X0_10 X1_10 b1_10 X2_10 b2_10 AG_10 bG_10 C_10
  clear bq
  go_wp2_with fail
  go_at_call 6
  refine (TB0.out _ (EN0.out.2.below C_11.out.1)).mono ?_
  rintro e w9 ⟨Y0, rfl, oY, bY⟩
  have z_12 : w8.heap.size ≤ w9.heap.size := bY.size
  have bA_12 : Hid (w9.heap[w.heap.size]? = some (.cells CA 28 (0, 0))) := (bY.block _ (Array.getElem?_eq_some_iff.1 bA_11.out).1).trans bA_11.out
  have bB_12 : Hid (w9.heap[(w.heap.size + 1)]? = some (.cells CB 28 (0, 0))) := (bY.block _ (Array.getElem?_eq_some_iff.1 bB_11.out).1).trans bB_11.out
  have bS_12 : Hid (w9.heap[bS]? = some (.cells CS 31 (0, 0))) := (bY.block _ (Array.getElem?_eq_some_iff.1 bS_11.out).1).trans bS_11.out
  have AS_12 : Hid _ := And.intro (AGOwns.below AS_11.out.1 bY) AS_11.out.2
  have X0_12 : Hid _ := And.intro (owns_below X0_11.out.1 bY) X0_11.out.2
  have X1_12 : Hid _ := And.intro (HEOwns.below X1_11.out.1 bY) X1_11.out.2
  have b1_12 : Hid (w9.heap[w5.heap.size]? = some (.cells CX1 37 (0, 0))) := (bY.block _ (Array.getElem?_eq_some_iff.1 b1_11.out).1).trans b1_11.out
  have X2_12 : Hid _ := And.intro (HEOwns.below X2_11.out.1 bY) X2_11.out.2
  have b2_12 : Hid (w9.heap[w6.heap.size]? = some (.cells CX2 37 (0, 0))) := (bY.block _ (Array.getElem?_eq_some_iff.1 b2_11.out).1).trans b2_11.out
  have AG_12 : Hid _ := And.intro (AGOwns.below AG_11.out.1 bY) AG_11.out.2
  have bG_12 : Hid (w9.heap[w7.heap.size]? = some (.cells CG 31 (0, 0))) := (bY.block _ (Array.getElem?_eq_some_iff.1 bG_11.out).1).trans bG_11.out
  have C_12 : Hid _ := And.intro (C_11.out.1.trans (bY.mono C_11.out.1.size)) True.intro
  clear bA_11 bB_11 bS_11 AS_11 X0_11 X1_11 b1_11 X2_11 b2_11 AG_11 bG_11 C_11
  have Y0_12 : Hid _ := And.intro oY (fun g (hg : Value.ownBlock _ = some g) => oY.lt g hg)
  clear oY bY
  go_wp2_with fail
  go_at_call 10
  refine (eqBytes_same _ _ x0 _ (rowNA X0_12.out.1 EN0.out.1) (row_of_owns Y0_12.out.1) (by rw [← EN0.out.1]; omega)).mono ?_
  rintro e w10 ⟨rfl, mw, hw⟩
  have dw : Below w9.heap.size w9 w10 := by rw [hw]; exact below_drewN (Below.refl _ _) mw
  clear hw
  have z_13 : w9.heap.size ≤ w10.heap.size := dw.size
  have bA_13 : Hid (w10.heap[w.heap.size]? = some (.cells CA 28 (0, 0))) := (dw.block _ (Array.getElem?_eq_some_iff.1 bA_12.out).1).trans bA_12.out
  have bB_13 : Hid (w10.heap[(w.heap.size + 1)]? = some (.cells CB 28 (0, 0))) := (dw.block _ (Array.getElem?_eq_some_iff.1 bB_12.out).1).trans bB_12.out
  have bS_13 : Hid (w10.heap[bS]? = some (.cells CS 31 (0, 0))) := (dw.block _ (Array.getElem?_eq_some_iff.1 bS_12.out).1).trans bS_12.out
  have AS_13 : Hid _ := And.intro (AGOwns.below AS_12.out.1 dw) AS_12.out.2
  have X0_13 : Hid _ := And.intro (owns_below X0_12.out.1 dw) X0_12.out.2
  have X1_13 : Hid _ := And.intro (HEOwns.below X1_12.out.1 dw) X1_12.out.2
  have b1_13 : Hid (w10.heap[w5.heap.size]? = some (.cells CX1 37 (0, 0))) := (dw.block _ (Array.getElem?_eq_some_iff.1 b1_12.out).1).trans b1_12.out
  have X2_13 : Hid _ := And.intro (HEOwns.below X2_12.out.1 dw) X2_12.out.2
  have b2_13 : Hid (w10.heap[w6.heap.size]? = some (.cells CX2 37 (0, 0))) := (dw.block _ (Array.getElem?_eq_some_iff.1 b2_12.out).1).trans b2_12.out
  have AG_13 : Hid _ := And.intro (AGOwns.below AG_12.out.1 dw) AG_12.out.2
  have bG_13 : Hid (w10.heap[w7.heap.size]? = some (.cells CG 31 (0, 0))) := (dw.block _ (Array.getElem?_eq_some_iff.1 bG_12.out).1).trans bG_12.out
  have Y0_13 : Hid _ := And.intro (owns_below Y0_12.out.1 dw) Y0_12.out.2
  have C_13 : Hid _ := And.intro (C_12.out.1.trans (dw.mono C_12.out.1.size)) True.intro
  clear bA_12 bB_12 bS_12 AS_12 X0_12 X1_12 b1_12 X2_12 b2_12 AG_12 bG_12 Y0_12 C_12
  clear dw Y0_13
  go_upto_region 19 with fail
  refine region_J (id := 19) (fun f a wx => ∃ q19_0 q19_1 q19_2 q19_3 q19_4 : Value, a = { tmps := #[Value.slice ao0 n0 cp0, Value.agg CA, Value.agg CB, undef, Value.pointer (some { block := w.heap.size, off := 0 }), Value.pointer (some { block := w.heap.size + 1, off := 0 }), Value.bool false, Value.int IntKind.i64 lu, Value.pointer (some { block := bS, off := 0 }), Value.int IntKind.i64 cd, Value.slice X0a n0 X0c, Value.pointer (some { block := w5.heap.size, off := 0 }), Value.pointer (some { block := w6.heap.size, off := 0 }), Value.pointer (some { block := w7.heap.size, off := 0 }), Value.int IntKind.i64 cd, undef, undef, undef, undef, undef, Value.slice ao0 n0 cp0, Value.int IntKind.i64 (n0 : Int), Value.bool (decide (1048576 < (n0 : Int))), Value.agg CA, Value.int IntKind.i64 1048576, Value.int IntKind.i64 lt, Value.int IntKind.i64 lt, Value.bool (decide (lt < 0)), Value.agg CB, Value.int IntKind.i64 lt, Value.int IntKind.i64 lu, Value.int IntKind.i64 lu, Value.bool (decide (lu < 0)), u33, u34, u35, u36, u37, u38, u39, u40, u41, u42, Value.slice ao0 n0 cp0, Value.slice X0a n0 X0c, Value.agg CA, Value.agg CX1, Value.agg CB, Value.agg CX2, Value.tuple #[Value.agg CG, Value.int IntKind.i64 cd], Value.slice X0a n0 X0c, Value.agg CX1, Value.agg CX2, Value.tuple #[Value.agg CG, Value.int IntKind.i64 cd], Value.agg CG, Value.int IntKind.i64 cd, Value.agg CG, Value.agg CS, Value.bool true, Value.bool false, Value.bool false, Value.int IntKind.i64 cd, Value.int IntKind.i64 cd, Value.bool false, Value.bool false, Value.slice X0a n0 X0c, Value.slice ao0 n0 cp0, Y0, Value.bool true, Value.bool false, q19_0, q19_1, q19_2, q19_3, q19_4, undef, undef, undef, undef, undef, undef, undef, undef, undef, undef, undef, undef, undef, undef, undef, undef, undef, undef, undef, undef, undef, undef, undef, undef, undef, undef, undef, undef, undef, undef, undef, undef, undef, undef, undef, undef, undef, undef, undef, undef, undef, undef, undef, undef, undef, undef, undef, undef, undef, undef, undef, undef, undef, undef, undef, undef, undef, undef, undef, undef, undef, undef, undef, undef, undef], defers := [] } ∧ Below w10.heap.size w10 wx ∧ (f 0 = true → q19_0 = .agg CX1) ∧ (f 1 = true → q19_1 = .agg CA) ∧ (f 2 = true → HERow wx q19_2 k1) ∧ (f 3 = true → q19_3 = .bool true) ∧ (f 4 = true → q19_4 = .bool false)) (by kernel_rfl) (by kernel_rfl) ?step ?done ?start
  case start => exact ⟨_, _, _, _, _, rfl, ⟨rfl, rfl, rfl, Nat.le_refl _, fun _ _ => rfl⟩, fun h => by simp at h, fun h => by simp at h, fun h => by simp at h, fun h => by simp at h, fun h => by simp at h⟩
  case step =>
    intro f a wx j op hInv hoj hfj hall K hK
    obtain ⟨q19_0, q19_1, q19_2, q19_3, q19_4, rfl, bl, x0_, x1_, x2_, x3_, x4_⟩ := hInv
    have HI2 : Hid _ := And.intro bl (And.intro x0_ (And.intro x1_ (And.intro x2_ (And.intro x3_ x4_))))
    have hj : j < 5 := (Array.getElem?_eq_some_iff.1 hoj).1
    obtain rfl | rfl | rfl | rfl | rfl : j = 0 ∨ j = 1 ∨ j = 2 ∨ j = 3 ∨ j = 4 := by omega
    · obtain rfl := Option.some.inj hoj
      clear bl x0_ x1_ x2_ x3_ x4_
      refine step_wpA rfl (wp_load_row 37 (.tmp 11) rfl (w5.heap.size) rfl 37 CX1 (0, 0) _ ((HI2.out.1.block _ (Array.getElem?_eq_some_iff.1 b1_13.out).1).trans b1_13.out) Tryz.underlying37 rfl SZCX1.out ?_)
      exact hK _ _ ⟨_, _, _, _, _, rfl, HI2.out.1, fun _ => rfl, fun h => HI2.out.2.2.1 (by simpa using h), fun h => HI2.out.2.2.2.1 (by simpa using h), fun h => HI2.out.2.2.2.2.1 (by simpa using h), fun h => HI2.out.2.2.2.2.2 (by simpa using h)⟩
    · obtain rfl := Option.some.inj hoj
      clear bl x0_ x1_ x2_ x3_ x4_
      refine step_wpA rfl (wp_load_row 28 (.tmp 4) rfl (w.heap.size) rfl 28 CA (0, 0) _ ((HI2.out.1.block _ (Array.getElem?_eq_some_iff.1 bA_13.out).1).trans bA_13.out) Tryz.underlying28 rfl SZCA.out ?_)
      exact hK _ _ ⟨_, _, _, _, _, rfl, HI2.out.1, fun h => HI2.out.2.1 (by simpa using h), fun _ => rfl, fun h => HI2.out.2.2.2.1 (by simpa using h), fun h => HI2.out.2.2.2.2.1 (by simpa using h), fun h => HI2.out.2.2.2.2.2 (by simpa using h)⟩
    · obtain rfl := Option.some.inj hoj
      obtain rfl := x1_ (hall ⟨1, .data⟩ (by simp) rfl)
      clear bl x0_ x1_ x2_ x3_ x4_
      go_simp
      go_at_call 7
      refine (TB1.out wx (HERow.below EN1.out.2 (C_13.out.1.trans (HI2.out.1.mono C_13.out.1.size)))).mono ?_
      rintro e wq ⟨r, rfl, o7, b7⟩
      exact hK _ _ ⟨_, _, _, _, _, rfl, HI2.out.1.trans (b7.mono HI2.out.1.size), fun h => HI2.out.2.1 (by simpa using h), fun h => HI2.out.2.2.1 (by simpa using h), fun _ => HEOwns.row o7, fun h => HI2.out.2.2.2.2.1 (by simpa using h), fun h => HI2.out.2.2.2.2.2 (by simpa using h)⟩
    · obtain rfl := Option.some.inj hoj
      obtain rfl := x0_ (hall ⟨0, .data⟩ (by simp) rfl)
      have h2_ := hall ⟨2, .data⟩ (by simp) rfl
      clear bl x0_ x1_ x2_ x3_ x4_
      go_simp
      go_at_call 11
      refine (eqHel_same _ _ k1 wx (HEOwns.row (HEOwns.below X1_13.out.1 HI2.out.1)) (HI2.out.2.2.2.1 h2_) (hesmall_mono EN1.out.1 (by decide))).mono ?_
      rintro e wq ⟨rfl, b7⟩
      exact hK _ _ ⟨_, _, _, _, _, rfl, HI2.out.1.trans (b7.mono HI2.out.1.size), fun h => HI2.out.2.1 (by simpa using h), fun h => HI2.out.2.2.1 (by simpa using h), fun h => (HI2.out.2.2.2.1 (by simpa using h)).below b7, fun _ => rfl, fun h => HI2.out.2.2.2.2.2 (by simpa using h)⟩
    · obtain rfl := Option.some.inj hoj
      obtain rfl := x3_ (hall ⟨3, .data⟩ (by simp) rfl)
      clear bl x0_ x1_ x2_ x3_ x4_
      go_simp
      exact hK _ _ ⟨_, _, _, _, _, rfl, HI2.out.1, fun h => HI2.out.2.1 (by simpa using h), fun h => HI2.out.2.2.1 (by simpa using h), fun h => HI2.out.2.2.2.1 (by simpa using h), fun h => HI2.out.2.2.2.2.1 (by simpa using h), fun _ => rfl⟩
  case done =>
  intro f a w11 hInv hall
  obtain ⟨q19_0, q19_1, q19_2, q19_3, q19_4, rfl, bl, x0_, x1_, x2_, x3_, x4_⟩ := hInv
  obtain rfl := x4_ (hall 4 (by decide))
  dsimp only
  clear x0_ x1_ x2_ x3_ x4_ hall
  have z_14 : w10.heap.size ≤ w11.heap.size := bl.size
  have bA_14 : Hid (w11.heap[w.heap.size]? = some (.cells CA 28 (0, 0))) := (bl.block _ (Array.getElem?_eq_some_iff.1 bA_13.out).1).trans bA_13.out
  have bB_14 : Hid (w11.heap[(w.heap.size + 1)]? = some (.cells CB 28 (0, 0))) := (bl.block _ (Array.getElem?_eq_some_iff.1 bB_13.out).1).trans bB_13.out
  have bS_14 : Hid (w11.heap[bS]? = some (.cells CS 31 (0, 0))) := (bl.block _ (Array.getElem?_eq_some_iff.1 bS_13.out).1).trans bS_13.out
  have AS_14 : Hid _ := And.intro (AGOwns.below AS_13.out.1 bl) AS_13.out.2
  have X0_14 : Hid _ := And.intro (owns_below X0_13.out.1 bl) X0_13.out.2
  have X1_14 : Hid _ := And.intro (HEOwns.below X1_13.out.1 bl) X1_13.out.2
  have b1_14 : Hid (w11.heap[w5.heap.size]? = some (.cells CX1 37 (0, 0))) := (bl.block _ (Array.getElem?_eq_some_iff.1 b1_13.out).1).trans b1_13.out
  have X2_14 : Hid _ := And.intro (HEOwns.below X2_13.out.1 bl) X2_13.out.2
  have b2_14 : Hid (w11.heap[w6.heap.size]? = some (.cells CX2 37 (0, 0))) := (bl.block _ (Array.getElem?_eq_some_iff.1 b2_13.out).1).trans b2_13.out
  have AG_14 : Hid _ := And.intro (AGOwns.below AG_13.out.1 bl) AG_13.out.2
  have bG_14 : Hid (w11.heap[w7.heap.size]? = some (.cells CG 31 (0, 0))) := (bl.block _ (Array.getElem?_eq_some_iff.1 bG_13.out).1).trans bG_13.out
  have C_14 : Hid _ := And.intro (C_13.out.1.trans (bl.mono C_13.out.1.size)) True.intro
  clear bA_13 bB_13 bS_13 AS_13 X0_13 X1_13 b1_13 X2_13 b2_13 AG_13 bG_13 C_13
  clear bl
  go_upto_region 21 with fail
  refine region_J (id := 21) (fun f a wx => ∃ q21_0 q21_1 q21_2 q21_3 q21_4 : Value, a = { tmps := #[Value.slice ao0 n0 cp0, Value.agg CA, Value.agg CB, undef, Value.pointer (some { block := w.heap.size, off := 0 }), Value.pointer (some { block := w.heap.size + 1, off := 0 }), Value.bool false, Value.int IntKind.i64 lu, Value.pointer (some { block := bS, off := 0 }), Value.int IntKind.i64 cd, Value.slice X0a n0 X0c, Value.pointer (some { block := w5.heap.size, off := 0 }), Value.pointer (some { block := w6.heap.size, off := 0 }), Value.pointer (some { block := w7.heap.size, off := 0 }), Value.int IntKind.i64 cd, undef, undef, undef, undef, undef, Value.slice ao0 n0 cp0, Value.int IntKind.i64 (n0 : Int), Value.bool (decide (1048576 < (n0 : Int))), Value.agg CA, Value.int IntKind.i64 1048576, Value.int IntKind.i64 lt, Value.int IntKind.i64 lt, Value.bool (decide (lt < 0)), Value.agg CB, Value.int IntKind.i64 lt, Value.int IntKind.i64 lu, Value.int IntKind.i64 lu, Value.bool (decide (lu < 0)), u33, u34, u35, u36, u37, u38, u39, u40, u41, u42, Value.slice ao0 n0 cp0, Value.slice X0a n0 X0c, Value.agg CA, Value.agg CX1, Value.agg CB, Value.agg CX2, Value.tuple #[Value.agg CG, Value.int IntKind.i64 cd], Value.slice X0a n0 X0c, Value.agg CX1, Value.agg CX2, Value.tuple #[Value.agg CG, Value.int IntKind.i64 cd], Value.agg CG, Value.int IntKind.i64 cd, Value.agg CG, Value.agg CS, Value.bool true, Value.bool false, Value.bool false, Value.int IntKind.i64 cd, Value.int IntKind.i64 cd, Value.bool false, Value.bool false, Value.slice X0a n0 X0c, Value.slice ao0 n0 cp0, Y0, Value.bool true, Value.bool false, q19_0, q19_1, q19_2, q19_3, Value.bool false, q21_0, q21_1, q21_2, q21_3, q21_4, undef, undef, undef, undef, undef, undef, undef, undef, undef, undef, undef, undef, undef, undef, undef, undef, undef, undef, undef, undef, undef, undef, undef, undef, undef, undef, undef, undef, undef, undef, undef, undef, undef, undef, undef, undef, undef, undef, undef, undef, undef, undef, undef, undef, undef, undef, undef, undef, undef, undef, undef, undef, undef, undef, undef, undef, undef, undef, undef, undef], defers := [] } ∧ Below w11.heap.size w11 wx ∧ (f 0 = true → q21_0 = .agg CX2) ∧ (f 1 = true → q21_1 = .agg CB) ∧ (f 2 = true → HERow wx q21_2 k2) ∧ (f 3 = true → q21_3 = .bool true) ∧ (f 4 = true → q21_4 = .bool false)) (by kernel_rfl) (by kernel_rfl) ?step ?done ?start
  case start => exact ⟨_, _, _, _, _, rfl, ⟨rfl, rfl, rfl, Nat.le_refl _, fun _ _ => rfl⟩, fun h => by simp at h, fun h => by simp at h, fun h => by simp at h, fun h => by simp at h, fun h => by simp at h⟩
  case step =>
    intro f a wx j op hInv hoj hfj hall K hK
    obtain ⟨q21_0, q21_1, q21_2, q21_3, q21_4, rfl, bl, x0_, x1_, x2_, x3_, x4_⟩ := hInv
    have HI2 : Hid _ := And.intro bl (And.intro x0_ (And.intro x1_ (And.intro x2_ (And.intro x3_ x4_))))
    have hj : j < 5 := (Array.getElem?_eq_some_iff.1 hoj).1
    obtain rfl | rfl | rfl | rfl | rfl : j = 0 ∨ j = 1 ∨ j = 2 ∨ j = 3 ∨ j = 4 := by omega
    · obtain rfl := Option.some.inj hoj
      clear bl x0_ x1_ x2_ x3_ x4_
      refine step_wpA rfl (wp_load_row 37 (.tmp 12) rfl (w6.heap.size) rfl 37 CX2 (0, 0) _ ((HI2.out.1.block _ (Array.getElem?_eq_some_iff.1 b2_14.out).1).trans b2_14.out) Tryz.underlying37 rfl SZCX2.out ?_)
      exact hK _ _ ⟨_, _, _, _, _, rfl, HI2.out.1, fun _ => rfl, fun h => HI2.out.2.2.1 (by simpa using h), fun h => HI2.out.2.2.2.1 (by simpa using h), fun h => HI2.out.2.2.2.2.1 (by simpa using h), fun h => HI2.out.2.2.2.2.2 (by simpa using h)⟩
    · obtain rfl := Option.some.inj hoj
      clear bl x0_ x1_ x2_ x3_ x4_
      refine step_wpA rfl (wp_load_row 28 (.tmp 5) rfl ((w.heap.size + 1)) rfl 28 CB (0, 0) _ ((HI2.out.1.block _ (Array.getElem?_eq_some_iff.1 bB_14.out).1).trans bB_14.out) Tryz.underlying28 rfl SZCB.out ?_)
      exact hK _ _ ⟨_, _, _, _, _, rfl, HI2.out.1, fun h => HI2.out.2.1 (by simpa using h), fun _ => rfl, fun h => HI2.out.2.2.2.1 (by simpa using h), fun h => HI2.out.2.2.2.2.1 (by simpa using h), fun h => HI2.out.2.2.2.2.2 (by simpa using h)⟩
    · obtain rfl := Option.some.inj hoj
      obtain rfl := x1_ (hall ⟨1, .data⟩ (by simp) rfl)
      clear bl x0_ x1_ x2_ x3_ x4_
      go_simp
      go_at_call 7
      refine (TB2.out wx (HERow.below EN2.out.2 (C_14.out.1.trans (HI2.out.1.mono C_14.out.1.size)))).mono ?_
      rintro e wq ⟨r, rfl, o7, b7⟩
      exact hK _ _ ⟨_, _, _, _, _, rfl, HI2.out.1.trans (b7.mono HI2.out.1.size), fun h => HI2.out.2.1 (by simpa using h), fun h => HI2.out.2.2.1 (by simpa using h), fun _ => HEOwns.row o7, fun h => HI2.out.2.2.2.2.1 (by simpa using h), fun h => HI2.out.2.2.2.2.2 (by simpa using h)⟩
    · obtain rfl := Option.some.inj hoj
      obtain rfl := x0_ (hall ⟨0, .data⟩ (by simp) rfl)
      have h2_ := hall ⟨2, .data⟩ (by simp) rfl
      clear bl x0_ x1_ x2_ x3_ x4_
      go_simp
      go_at_call 11
      refine (eqHel_same _ _ k2 wx (HEOwns.row (HEOwns.below X2_14.out.1 HI2.out.1)) (HI2.out.2.2.2.1 h2_) (hesmall_mono EN2.out.1 (by decide))).mono ?_
      rintro e wq ⟨rfl, b7⟩
      exact hK _ _ ⟨_, _, _, _, _, rfl, HI2.out.1.trans (b7.mono HI2.out.1.size), fun h => HI2.out.2.1 (by simpa using h), fun h => HI2.out.2.2.1 (by simpa using h), fun h => (HI2.out.2.2.2.1 (by simpa using h)).below b7, fun _ => rfl, fun h => HI2.out.2.2.2.2.2 (by simpa using h)⟩
    · obtain rfl := Option.some.inj hoj
      obtain rfl := x3_ (hall ⟨3, .data⟩ (by simp) rfl)
      clear bl x0_ x1_ x2_ x3_ x4_
      go_simp
      exact hK _ _ ⟨_, _, _, _, _, rfl, HI2.out.1, fun h => HI2.out.2.1 (by simpa using h), fun h => HI2.out.2.2.1 (by simpa using h), fun h => HI2.out.2.2.2.1 (by simpa using h), fun h => HI2.out.2.2.2.2.1 (by simpa using h), fun _ => rfl⟩
  case done =>
  intro f a w12 hInv hall
  obtain ⟨q21_0, q21_1, q21_2, q21_3, q21_4, rfl, bl, x0_, x1_, x2_, x3_, x4_⟩ := hInv
  obtain rfl := x4_ (hall 4 (by decide))
  dsimp only
  clear x0_ x1_ x2_ x3_ x4_ hall
  have z_15 : w11.heap.size ≤ w12.heap.size := bl.size
  have bA_15 : Hid (w12.heap[w.heap.size]? = some (.cells CA 28 (0, 0))) := (bl.block _ (Array.getElem?_eq_some_iff.1 bA_14.out).1).trans bA_14.out
  have bB_15 : Hid (w12.heap[(w.heap.size + 1)]? = some (.cells CB 28 (0, 0))) := (bl.block _ (Array.getElem?_eq_some_iff.1 bB_14.out).1).trans bB_14.out
  have bS_15 : Hid (w12.heap[bS]? = some (.cells CS 31 (0, 0))) := (bl.block _ (Array.getElem?_eq_some_iff.1 bS_14.out).1).trans bS_14.out
  have AS_15 : Hid _ := And.intro (AGOwns.below AS_14.out.1 bl) AS_14.out.2
  have X0_15 : Hid _ := And.intro (owns_below X0_14.out.1 bl) X0_14.out.2
  have X1_15 : Hid _ := And.intro (HEOwns.below X1_14.out.1 bl) X1_14.out.2
  have b1_15 : Hid (w12.heap[w5.heap.size]? = some (.cells CX1 37 (0, 0))) := (bl.block _ (Array.getElem?_eq_some_iff.1 b1_14.out).1).trans b1_14.out
  have X2_15 : Hid _ := And.intro (HEOwns.below X2_14.out.1 bl) X2_14.out.2
  have b2_15 : Hid (w12.heap[w6.heap.size]? = some (.cells CX2 37 (0, 0))) := (bl.block _ (Array.getElem?_eq_some_iff.1 b2_14.out).1).trans b2_14.out
  have AG_15 : Hid _ := And.intro (AGOwns.below AG_14.out.1 bl) AG_14.out.2
  have bG_15 : Hid (w12.heap[w7.heap.size]? = some (.cells CG 31 (0, 0))) := (bl.block _ (Array.getElem?_eq_some_iff.1 bG_14.out).1).trans bG_14.out
  have C_15 : Hid _ := And.intro (C_14.out.1.trans (bl.mono C_14.out.1.size)) True.intro
  clear bA_14 bB_14 bS_14 AS_14 X0_14 X1_14 b1_14 X2_14 b2_14 AG_14 bG_14 C_14
  clear bl
  go_wp2_with fail
  go_at_call 12
  refine (markBytes 1 n0 _ _ x0 _ (by omega) (by omega) (by omega) X0_15.out.1).mono ?_
  rintro e w13 ⟨rfl, om, bm, zm, om'⟩
  have ch : Chg (fun g => Value.ownBlock _ = some g) _ _ := Chg.of_only om' (fun g e => e)
  have z_16 : w12.heap.size ≤ w13.heap.size := ch.size
  have bA_16 : Hid (w13.heap[w.heap.size]? = some (.cells CA 28 (0, 0))) := (ch.block _ (Array.getElem?_eq_some_iff.1 bA_15.out).1 (fun hs => by have p := X0_15.out.2 _ hs; omega)).trans bA_15.out
  have bB_16 : Hid (w13.heap[(w.heap.size + 1)]? = some (.cells CB 28 (0, 0))) := (ch.block _ (Array.getElem?_eq_some_iff.1 bB_15.out).1 (fun hs => by have p := X0_15.out.2 _ hs; omega)).trans bB_15.out
  have bS_16 : Hid (w13.heap[bS]? = some (.cells CS 31 (0, 0))) := (ch.block _ (Array.getElem?_eq_some_iff.1 bS_15.out).1 (fun hs => by have p := X0_15.out.2 _ hs; omega)).trans bS_15.out
  have AS_16 : Hid _ := And.intro (ch.agowns2 AS_15.out.1 (fun g hg hs => by have p1 := AS_15.out.2 g hg; have p2 := X0_15.out.2 g hs; omega)) AS_15.out.2
  have X1_16 : Hid _ := And.intro (ch.heowns2 X1_15.out.1 (fun g hg hs => by have p1 := X1_15.out.2 g hg; have p2 := X0_15.out.2 g hs; omega)) X1_15.out.2
  have b1_16 : Hid (w13.heap[w5.heap.size]? = some (.cells CX1 37 (0, 0))) := (ch.block _ (Array.getElem?_eq_some_iff.1 b1_15.out).1 (fun hs => by have p := X0_15.out.2 _ hs; omega)).trans b1_15.out
  have X2_16 : Hid _ := And.intro (ch.heowns2 X2_15.out.1 (fun g hg hs => by have p1 := X2_15.out.2 g hg; have p2 := X0_15.out.2 g hs; omega)) X2_15.out.2
  have b2_16 : Hid (w13.heap[w6.heap.size]? = some (.cells CX2 37 (0, 0))) := (ch.block _ (Array.getElem?_eq_some_iff.1 b2_15.out).1 (fun hs => by have p := X0_15.out.2 _ hs; omega)).trans b2_15.out
  have AG_16 : Hid _ := And.intro (ch.agowns2 AG_15.out.1 (fun g hg hs => by have p1 := AG_15.out.2 g hg; have p2 := X0_15.out.2 g hs; omega)) AG_15.out.2
  have bG_16 : Hid (w13.heap[w7.heap.size]? = some (.cells CG 31 (0, 0))) := (ch.block _ (Array.getElem?_eq_some_iff.1 bG_15.out).1 (fun hs => by have p := X0_15.out.2 _ hs; omega)).trans bG_15.out
  have C_16 : Hid _ := And.intro (C_15.out.1.trans (ch.below C_15.out.1.size (fun g hg => by have p2 := X0_15.out.2 g hg; omega))) True.intro
  clear C_15
  clear om bm zm om' ch
  go_wp2_with (refine wpList_load_row rfl 37 _ rfl w5.heap.size rfl 37 CX1 (0, 0) _ b1_16.out Tryz.underlying37 rfl SZCX1.out ?_)
  go_at_call 13
  refine (markHel (1 + (n0 : Int)) _ _ k1 _ (hesmall_mono EN1.out.1 (by decide)) (by omega) (by omega) X1_16.out.1).mono ?_
  rintro e w14 ⟨rfl, om, ch⟩
  have z_17 : w13.heap.size ≤ w14.heap.size := ch.size
  have bA_17 : Hid (w14.heap[w.heap.size]? = some (.cells CA 28 (0, 0))) := (ch.block _ (Array.getElem?_eq_some_iff.1 bA_16.out).1 (fun hs => by have p := X1_16.out.2 _ hs; omega)).trans bA_16.out
  have bB_17 : Hid (w14.heap[(w.heap.size + 1)]? = some (.cells CB 28 (0, 0))) := (ch.block _ (Array.getElem?_eq_some_iff.1 bB_16.out).1 (fun hs => by have p := X1_16.out.2 _ hs; omega)).trans bB_16.out
  have bS_17 : Hid (w14.heap[bS]? = some (.cells CS 31 (0, 0))) := (ch.block _ (Array.getElem?_eq_some_iff.1 bS_16.out).1 (fun hs => by have p := X1_16.out.2 _ hs; omega)).trans bS_16.out
  have AS_17 : Hid _ := And.intro (ch.agowns2 AS_16.out.1 (fun g hg hs => by have p1 := AS_16.out.2 g hg; have p2 := X1_16.out.2 g hs; omega)) AS_16.out.2
  have b1_17 : Hid (w14.heap[w5.heap.size]? = some (.cells CX1 37 (0, 0))) := (ch.block _ (Array.getElem?_eq_some_iff.1 b1_16.out).1 (fun hs => by have p := X1_16.out.2 _ hs; omega)).trans b1_16.out
  have X2_17 : Hid _ := And.intro (ch.heowns2 X2_16.out.1 (fun g hg hs => by have p1 := X2_16.out.2 g hg; have p2 := X1_16.out.2 g hs; omega)) X2_16.out.2
  have b2_17 : Hid (w14.heap[w6.heap.size]? = some (.cells CX2 37 (0, 0))) := (ch.block _ (Array.getElem?_eq_some_iff.1 b2_16.out).1 (fun hs => by have p := X1_16.out.2 _ hs; omega)).trans b2_16.out
  have AG_17 : Hid _ := And.intro (ch.agowns2 AG_16.out.1 (fun g hg hs => by have p1 := AG_16.out.2 g hg; have p2 := X1_16.out.2 g hs; omega)) AG_16.out.2
  have bG_17 : Hid (w14.heap[w7.heap.size]? = some (.cells CG 31 (0, 0))) := (ch.block _ (Array.getElem?_eq_some_iff.1 bG_16.out).1 (fun hs => by have p := X1_16.out.2 _ hs; omega)).trans bG_16.out
  have C_17 : Hid _ := And.intro (C_16.out.1.trans (ch.below C_16.out.1.size (fun g hg => by have p2 := X1_16.out.2 g hg; omega))) True.intro
  clear C_16
  clear om ch
  go_wp2_with (refine wpList_load_row rfl 37 _ rfl w6.heap.size rfl 37 CX2 (0, 0) _ b2_17.out Tryz.underlying37 rfl SZCX2.out ?_)
  go_at_call 13
  refine (markHel ((1 + (n0 : Int)) + k1.marksN) _ _ k2 _ (hesmall_mono EN2.out.1 (by decide)) (by omega) (by omega) X2_17.out.1).mono ?_
  rintro e w15 ⟨rfl, om, ch⟩
  have z_18 : w14.heap.size ≤ w15.heap.size := ch.size
  have bA_18 : Hid (w15.heap[w.heap.size]? = some (.cells CA 28 (0, 0))) := (ch.block _ (Array.getElem?_eq_some_iff.1 bA_17.out).1 (fun hs => by have p := X2_17.out.2 _ hs; omega)).trans bA_17.out
  have bB_18 : Hid (w15.heap[(w.heap.size + 1)]? = some (.cells CB 28 (0, 0))) := (ch.block _ (Array.getElem?_eq_some_iff.1 bB_17.out).1 (fun hs => by have p := X2_17.out.2 _ hs; omega)).trans bB_17.out
  have bS_18 : Hid (w15.heap[bS]? = some (.cells CS 31 (0, 0))) := (ch.block _ (Array.getElem?_eq_some_iff.1 bS_17.out).1 (fun hs => by have p := X2_17.out.2 _ hs; omega)).trans bS_17.out
  have AS_18 : Hid _ := And.intro (ch.agowns2 AS_17.out.1 (fun g hg hs => by have p1 := AS_17.out.2 g hg; have p2 := X2_17.out.2 g hs; omega)) AS_17.out.2
  have b2_18 : Hid (w15.heap[w6.heap.size]? = some (.cells CX2 37 (0, 0))) := (ch.block _ (Array.getElem?_eq_some_iff.1 b2_17.out).1 (fun hs => by have p := X2_17.out.2 _ hs; omega)).trans b2_17.out
  have AG_18 : Hid _ := And.intro (ch.agowns2 AG_17.out.1 (fun g hg hs => by have p1 := AG_17.out.2 g hg; have p2 := X2_17.out.2 g hs; omega)) AG_17.out.2
  have bG_18 : Hid (w15.heap[w7.heap.size]? = some (.cells CG 31 (0, 0))) := (ch.block _ (Array.getElem?_eq_some_iff.1 bG_17.out).1 (fun hs => by have p := X2_17.out.2 _ hs; omega)).trans bG_17.out
  have C_18 : Hid _ := And.intro (C_17.out.1.trans (ch.below C_17.out.1.size (fun g hg => by have p2 := X2_17.out.2 g hg; omega))) True.intro
  clear C_17
  clear om ch
  have nk : ¬ (((1 + (n0 : Int)) + k1.marksN) + k2.marksN) < 0 := by omega
  go_wp2_with (first | (refine wpList_load_rowG (by rfl) 31 _ rfl w7.heap.size rfl 31 CG (0, 0) _ bG_18.out Tryz.underlying31 rfl SZCG.out ?_) | (refine wpList_load_rowG (by rfl) 31 _ rfl bS rfl 31 CS (0, 0) _ bS_18.out Tryz.underlying31 rfl SZCS.out ?_))
  go_at_call 9
  refine (eqAg_same _ _ z _ (AGOwns.row AG_18.out.1) (AGOwns.row AS_18.out.1) (ag_small LR.out.1)).mono ?_
  rintro e w16 ⟨rfl, bq⟩
  have z_19 : w15.heap.size ≤ w16.heap.size := bq.size
  have bA_19 : Hid (w16.heap[w.heap.size]? = some (.cells CA 28 (0, 0))) := (bq.block _ (Array.getElem?_eq_some_iff.1 bA_18.out).1).trans bA_18.out
  have bB_19 : Hid (w16.heap[(w.heap.size + 1)]? = some (.cells CB 28 (0, 0))) := (bq.block _ (Array.getElem?_eq_some_iff.1 bB_18.out).1).trans bB_18.out
  have bS_19 : Hid (w16.heap[bS]? = some (.cells CS 31 (0, 0))) := (bq.block _ (Array.getElem?_eq_some_iff.1 bS_18.out).1).trans bS_18.out
  have AS_19 : Hid _ := And.intro (AGOwns.below AS_18.out.1 bq) AS_18.out.2
  have AG_19 : Hid _ := And.intro (AGOwns.below AG_18.out.1 bq) AG_18.out.2
  have bG_19 : Hid (w16.heap[w7.heap.size]? = some (.cells CG 31 (0, 0))) := (bq.block _ (Array.getElem?_eq_some_iff.1 bG_18.out).1).trans bG_18.out
  have C_19 : Hid _ := And.intro (C_18.out.1.trans (bq.mono C_18.out.1.size)) True.intro
  clear bA_18 bB_18 bS_18 AS_18 AG_18 bG_18 C_18
  clear bq
  go_wp2_with (refine wpList_load_row rfl 31 _ rfl w7.heap.size rfl 31 CG (0, 0) _ bG_19.out Tryz.underlying31 rfl SZCG.out ?_)
  go_at_call 14
  refine (markAg 1 _ _ z _ (ag_small LR.out.1) (by decide) (by decide) AG_19.out.1).mono ?_
  rintro e w17 ⟨rfl, om, ch⟩
  have z_20 : w16.heap.size ≤ w17.heap.size := ch.size
  have bA_20 : Hid (w17.heap[w.heap.size]? = some (.cells CA 28 (0, 0))) := (ch.block _ (Array.getElem?_eq_some_iff.1 bA_19.out).1 (fun hs => by have p := AG_19.out.2 _ hs; omega)).trans bA_19.out
  have bB_20 : Hid (w17.heap[(w.heap.size + 1)]? = some (.cells CB 28 (0, 0))) := (ch.block _ (Array.getElem?_eq_some_iff.1 bB_19.out).1 (fun hs => by have p := AG_19.out.2 _ hs; omega)).trans bB_19.out
  have bS_20 : Hid (w17.heap[bS]? = some (.cells CS 31 (0, 0))) := (ch.block _ (Array.getElem?_eq_some_iff.1 bS_19.out).1 (fun hs => by have p := AG_19.out.2 _ hs; omega)).trans bS_19.out
  have AS_20 : Hid _ := And.intro (ch.agowns2 AS_19.out.1 (fun g hg hs => by have p1 := AS_19.out.2 g hg; have p2 := AG_19.out.2 g hs; omega)) AS_19.out.2
  have bG_20 : Hid (w17.heap[w7.heap.size]? = some (.cells CG 31 (0, 0))) := (ch.block _ (Array.getElem?_eq_some_iff.1 bG_19.out).1 (fun hs => by have p := AG_19.out.2 _ hs; omega)).trans bG_19.out
  have C_20 : Hid _ := And.intro (C_19.out.1.trans (ch.below C_19.out.1.size (fun g hg => by have p2 := AG_19.out.2 g hg; omega))) True.intro
  clear C_19
  have AG_20 : Hid _ := And.intro (show AGOwns _ _ _ _ from om) AG_19.out.2
  clear om ch
  obtain ⟨mq, emq⟩ : ∃ mq : Int, mq = 1 + (z.c1.length : Int) + (z.s1.length : Int) + (z.c2.length : Int) + (z.s2.length : Int) + (z.ck.length : Int) := ⟨_, rfl⟩
  have mq0 : ¬ mq < 0 := by omega
  have mqq : (mq != mq) = false := by simp
  rw [← emq]
  have HM : Hid _ := And.intro emq True.intro
  clear emq
  go_wp2_with (refine wpList_load_row rfl 31 _ rfl w7.heap.size rfl 31 CG (0, 0) _ bG_20.out Tryz.underlying31 rfl SZCG.out ?_)
  go_at_call 15
  refine (heldAg 1 _ z _ (ag_small LR.out.1) (by decide) (by decide) (AGOwns.row AG_20.out.1)).mono ?_
  rintro e w18 ⟨rfl, bh⟩
  have z_21 : w17.heap.size ≤ w18.heap.size := bh.size
  have bA_21 : Hid (w18.heap[w.heap.size]? = some (.cells CA 28 (0, 0))) := (bh.block _ (Array.getElem?_eq_some_iff.1 bA_20.out).1).trans bA_20.out
  have bB_21 : Hid (w18.heap[(w.heap.size + 1)]? = some (.cells CB 28 (0, 0))) := (bh.block _ (Array.getElem?_eq_some_iff.1 bB_20.out).1).trans bB_20.out
  have bS_21 : Hid (w18.heap[bS]? = some (.cells CS 31 (0, 0))) := (bh.block _ (Array.getElem?_eq_some_iff.1 bS_20.out).1).trans bS_20.out
  have AS_21 : Hid _ := And.intro (AGOwns.below AS_20.out.1 bh) AS_20.out.2
  have AG_21 : Hid _ := And.intro (AGOwns.below AG_20.out.1 bh) AG_20.out.2
  have bG_21 : Hid (w18.heap[w7.heap.size]? = some (.cells CG 31 (0, 0))) := (bh.block _ (Array.getElem?_eq_some_iff.1 bG_20.out).1).trans bG_20.out
  have C_21 : Hid _ := And.intro (C_20.out.1.trans (bh.mono C_20.out.1.size)) True.intro
  clear bA_20 bB_20 bS_20 AS_20 AG_20 bG_20 C_20
  clear bh
  rw [← HM.out.1]
  go_upto_region 37 with fail
  have CL4 : ∀ wx, Below w18.heap.size w18 wx → wx.heap[w.heap.size]? = some (.cells CA 28 (0, 0)) ∧ wx.heap[w.heap.size + 1]? = some (.cells CB 28 (0, 0)) ∧ Below w.heap.size w wx := fun wx b => ⟨(b.block _ (Array.getElem?_eq_some_iff.1 bA_21.out).1).trans bA_21.out, (b.block _ (Array.getElem?_eq_some_iff.1 bB_21.out).1).trans bB_21.out, C_21.out.1.trans (b.mono C_21.out.1.size)⟩
  have HCL : Hid _ := And.intro CL4 True.intro
  clear CL4
  refine region_J (id := 37) (fun f a wx => ∃ y37_34 y37_35 y37_36 y37_37 y37_38 y37_39 y37_40 y37_33 y37_41 y37_42 y37_8 y37_9 : Value, ∃ wy : World, a = { tmps := #[Value.slice ao0 n0 cp0, Value.agg CA, Value.agg CB, undef, Value.pointer (some { block := w.heap.size, off := 0 }), Value.pointer (some { block := w.heap.size + 1, off := 0 }), Value.bool false, Value.int IntKind.i64 lu, Value.pointer (some { block := bS, off := 0 }), Value.int IntKind.i64 cd, Value.slice X0a n0 X0c, Value.pointer (some { block := w5.heap.size, off := 0 }), Value.pointer (some { block := w6.heap.size, off := 0 }), Value.pointer (some { block := w7.heap.size, off := 0 }), Value.int IntKind.i64 cd, Value.int IntKind.i64 (1 + (n0 : Int) + k1.marksN + k2.marksN), Value.int IntKind.i64 mq, Value.int IntKind.i64 mq, y37_8, y37_9, Value.slice ao0 n0 cp0, Value.int IntKind.i64 (n0 : Int), Value.bool (decide (1048576 < (n0 : Int))), Value.agg CA, Value.int IntKind.i64 1048576, Value.int IntKind.i64 lt, Value.int IntKind.i64 lt, Value.bool (decide (lt < 0)), Value.agg CB, Value.int IntKind.i64 lt, Value.int IntKind.i64 lu, Value.int IntKind.i64 lu, Value.bool (decide (lu < 0)), u33, u34, u35, u36, u37, u38, u39, u40, u41, u42, Value.slice ao0 n0 cp0, Value.slice X0a n0 X0c, Value.agg CA, Value.agg CX1, Value.agg CB, Value.agg CX2, Value.tuple #[Value.agg CG, Value.int IntKind.i64 cd], Value.slice X0a n0 X0c, Value.agg CX1, Value.agg CX2, Value.tuple #[Value.agg CG, Value.int IntKind.i64 cd], Value.agg CG, Value.int IntKind.i64 cd, Value.agg CG, Value.agg CS, Value.bool true, Value.bool false, Value.bool false, Value.int IntKind.i64 cd, Value.int IntKind.i64 cd, Value.bool false, Value.bool false, Value.slice X0a n0 X0c, Value.slice ao0 n0 cp0, Y0, Value.bool true, Value.bool false, q19_0, q19_1, q19_2, q19_3, Value.bool false, q21_0, q21_1, q21_2, q21_3, Value.bool false, Value.slice X0a n0 X0c, Value.int IntKind.i64 1, Value.int IntKind.i64 (1 + (n0 : Int)), Value.agg CX1, Value.int IntKind.i64 (1 + (n0 : Int)), Value.int IntKind.i64 (1 + (n0 : Int) + k1.marksN), Value.agg CX2, Value.int IntKind.i64 (1 + (n0 : Int) + k1.marksN), Value.int IntKind.i64 (1 + (n0 : Int) + k1.marksN + k2.marksN), Value.int IntKind.i64 (1 + (n0 : Int) + k1.marksN + k2.marksN), Value.bool (decide (1 + (n0 : Int) + k1.marksN + k2.marksN < 0)), Value.bool (decide (1 + (n0 : Int) + k1.marksN + k2.marksN < 0)), Value.agg CG, Value.agg CS, Value.bool true, Value.bool false, Value.bool (decide (1 + (n0 : Int) + k1.marksN + k2.marksN < 0)), Value.bool (decide (1 + (n0 : Int) + k1.marksN + k2.marksN < 0)), Value.int IntKind.i64 cd, Value.int IntKind.i64 cd, Value.bool false, Value.bool (decide (1 + (n0 : Int) + k1.marksN + k2.marksN < 0)), Value.agg CG, Value.int IntKind.i64 1, Value.int IntKind.i64 mq, Value.agg CG, Value.int IntKind.i64 1, Value.int IntKind.i64 mq, Value.int IntKind.i64 mq, Value.bool (decide (mq < 0)), Value.int IntKind.i64 mq, Value.int IntKind.i64 mq, Value.bool false, y37_33, y37_34, y37_35, y37_36, y37_37, y37_38, y37_39, y37_40, y37_41, y37_42, undef, undef, undef, undef, undef, undef, undef, undef, undef, undef, undef, undef, undef, undef, undef, undef, undef], defers := [] } ∧ PLa w18 (.slice ao0 n0 cp0) x0 k1 k2 CA CB z cd f wy y37_34 y37_35 y37_36 y37_37 y37_38 y37_39 y37_40 y37_33 y37_41 y37_42 y37_8 y37_9 ∧ ∃ CZ : Array Value, ∃ bz : Nat, (f 6 = true → y37_40 = .tuple #[.agg CZ, .int .i64 cd]) ∧ (f 10 = true → y37_8 = .pointer (some ⟨bz, 0, none⟩)) ∧ wx = (if f 11 = true then wy.setRow bz CZ else wy)) (by kernel_rfl) (by kernel_rfl) ?step ?done ?start
  case start =>
    exact ⟨_, _, _, _, _, _, _, _, _, _, _, _, w18.drew, rfl, ⟨fun h => by simp at h, fun h => by simp at h, fun h => by simp at h, fun h => by simp at h, fun h => by simp at h, fun h => by simp at h, fun h => by simp at h, fun h => by simp at h, fun h => by simp at h, ⟨rfl, rfl, rfl, Nat.le_refl _, fun _ _ => rfl⟩, fun h => by simp at h, fun h => by simp at h, fun h => by simp at h, fun h => by simp at h, fun h => by simp at h⟩, #[], 0, fun h => by simp at h, fun h => by simp at h, by simp⟩
  case step =>
    intro f a wx j op hInv hoj hfj hall K hK
    obtain ⟨y37_34, y37_35, y37_36, y37_37, y37_38, y37_39, y37_40, y37_33, y37_41, y37_42, y37_8, y37_9, wy, rfl, hI, CZ, bz, hCZ, hbz, hwx⟩ := hInv
    have hj : j < 13 := (Array.getElem?_eq_some_iff.1 hoj).1
    obtain rfl | rfl | rfl | rfl | rfl | rfl | rfl | rfl | rfl | rfl | rfl | rfl | rfl : j = 0 ∨ j = 1 ∨ j = 2 ∨ j = 3 ∨ j = 4 ∨ j = 5 ∨ j = 6 ∨ j = 7 ∨ j = 8 ∨ j = 9 ∨ j = 10 ∨ j = 11 ∨ j = 12 := by omega
    · obtain rfl := Option.some.inj hoj
      have h11 : f 11 = false := by
        cases h : f 11 with
        | false => rfl
        | true => exact absurd ((hI.late h).2 0 (by omega)) (by rw [hfj]; simp)
      obtain rfl : wx = wy := by rw [hwx, h11]; rfl
      clear hwx
      have HI2 : Hid _ := And.intro hI (And.intro hCZ hbz)
      clear hI hCZ hbz
      go_simp
      refine hK _ _ ⟨_, _, _, _, _, _, _, _, _, _, _, _, wx, rfl, ?_, CZ, bz, fun h => HI2.out.2.1 (by simpa using h), fun h => HI2.out.2.2 (by simpa using h), by simp [h11]⟩
      have hI := HI2.out.1
      exact ⟨fun _ => rfl, fun h => hI.x1 (by simpa using h), fun h => hI.x2 (by simpa using h), fun h => hI.x3 (by simpa using h), fun h => hI.x4 (by simpa using h), fun h => hI.x5 (by simpa using h), fun h => by obtain ⟨C, e, oA, t7, t8, t9⟩ := hI.x6 (by simpa using h); exact ⟨C, e, oA, fun h => t7 (by simpa using h), fun h => t8 (by simpa using h), fun h => t9 (by simpa using h)⟩, fun h => by obtain ⟨b, e, hz, hb⟩ := hI.x10 (by simpa using h); exact ⟨b, e, hz, hb⟩, fun h => hI.x12 (by simpa using h), hI.bl, fun h => by have := hI.q7 (by simpa using h); simp [this], fun h => by have := hI.q8 (by simpa using h); simp [this], fun h => by have := hI.q9 (by simpa using h); simp [this], fun h => by have := hI.late (by simpa using h); exact ⟨by simp [this.1], fun i hi => by simp [this.2 i hi]⟩, fun h => by have := hI.late2 (by simpa using h); simp [this]⟩
    · obtain rfl := Option.some.inj hoj
      have h0_ := hall ⟨0, .data⟩ (by simp) rfl
      have h11 : f 11 = false := by
        cases h : f 11 with
        | false => rfl
        | true => exact absurd ((hI.late h).2 1 (by omega)) (by rw [hfj]; simp)
      obtain rfl : wx = wy := by rw [hwx, h11]; rfl
      clear hwx
      obtain rfl := hI.x0 h0_
      have HI2 : Hid _ := And.intro hI (And.intro hCZ hbz)
      clear hI hCZ hbz
      go_simp
      go_at_call 6
      refine (TB0.out wx (EN0.out.2.below (HCL.out.1 wx HI2.out.1.bl).2.2)).mono ?_
      rintro e wq ⟨r, rfl, o7, b7⟩
      refine hK _ _ ⟨_, _, _, _, _, _, _, _, _, _, _, _, wq, rfl, ?_, CZ, bz, fun h => HI2.out.2.1 (by simpa using h), fun h => HI2.out.2.2 (by simpa using h), by simp [h11]⟩
      have hI := HI2.out.1
      exact ⟨fun h => hI.x0 (by simpa using h), fun _ => row_of_owns o7, fun h => hI.x2 (by simpa using h), fun h => (hI.x3 (by simpa using h)).below b7, fun h => hI.x4 (by simpa using h), fun h => (hI.x5 (by simpa using h)).below b7, fun h => by obtain ⟨C, e, oA, t7, t8, t9⟩ := hI.x6 (by simpa using h); exact ⟨C, e, oA.below b7, fun h => t7 (by simpa using h), fun h => t8 (by simpa using h), fun h => t9 (by simpa using h)⟩, fun h => by obtain ⟨b, e, hz, hb⟩ := hI.x10 (by simpa using h); exact ⟨b, e, hz, (b7.block _ (Array.getElem?_eq_some_iff.1 hb).1).trans hb⟩, fun h => hI.x12 (by simpa using h), hI.bl.trans (b7.mono hI.bl.size), fun h => by have := hI.q7 (by simpa using h); simp [this], fun h => by have := hI.q8 (by simpa using h); simp [this], fun h => by have := hI.q9 (by simpa using h); simp [this], fun h => by have := hI.late (by simpa using h); exact ⟨by simp [this.1], fun i hi => by simp [this.2 i hi]⟩, fun h => by have := hI.late2 (by simpa using h); simp [this]⟩
    · obtain rfl := Option.some.inj hoj
      have h11 : f 11 = false := by
        cases h : f 11 with
        | false => rfl
        | true => exact absurd ((hI.late h).2 2 (by omega)) (by rw [hfj]; simp)
      obtain rfl : wx = wy := by rw [hwx, h11]; rfl
      clear hwx
      have HI2 : Hid _ := And.intro hI (And.intro hCZ hbz)
      clear hI hCZ hbz
      refine step_wpA rfl (wp_load_row 28 (.tmp 4) rfl (w.heap.size) rfl 28 CA (0, 0) _ (HCL.out.1 wx HI2.out.1.bl).1 Tryz.underlying28 rfl SZCA.out ?_)
      refine hK _ _ ⟨_, _, _, _, _, _, _, _, _, _, _, _, wx, rfl, ?_, CZ, bz, fun h => HI2.out.2.1 (by simpa using h), fun h => HI2.out.2.2 (by simpa using h), by simp [h11]⟩
      have hI := HI2.out.1
      exact ⟨fun h => hI.x0 (by simpa using h), fun h => hI.x1 (by simpa using h), fun _ => rfl, fun h => hI.x3 (by simpa using h), fun h => hI.x4 (by simpa using h), fun h => hI.x5 (by simpa using h), fun h => by obtain ⟨C, e, oA, t7, t8, t9⟩ := hI.x6 (by simpa using h); exact ⟨C, e, oA, fun h => t7 (by simpa using h), fun h => t8 (by simpa using h), fun h => t9 (by simpa using h)⟩, fun h => by obtain ⟨b, e, hz, hb⟩ := hI.x10 (by simpa using h); exact ⟨b, e, hz, hb⟩, fun h => hI.x12 (by simpa using h), hI.bl, fun h => by have := hI.q7 (by simpa using h); simp [this], fun h => by have := hI.q8 (by simpa using h); simp [this], fun h => by have := hI.q9 (by simpa using h); simp [this], fun h => by have := hI.late (by simpa using h); exact ⟨by simp [this.1], fun i hi => by simp [this.2 i hi]⟩, fun h => by have := hI.late2 (by simpa using h); simp [this]⟩
    · obtain rfl := Option.some.inj hoj
      have h2_ := hall ⟨2, .data⟩ (by simp) rfl
      have h1_ := hall ⟨1, .chain⟩ (by simp) rfl
      have h11 : f 11 = false := by
        cases h : f 11 with
        | false => rfl
        | true => exact absurd ((hI.late h).2 3 (by omega)) (by rw [hfj]; simp)
      obtain rfl : wx = wy := by rw [hwx, h11]; rfl
      clear hwx
      obtain rfl := hI.x2 h2_
      have HI2 : Hid _ := And.intro hI (And.intro hCZ hbz)
      clear hI hCZ hbz
      go_simp
      go_at_call 7
      refine (TB1.out wx (HERow.below EN1.out.2 (HCL.out.1 wx HI2.out.1.bl).2.2)).mono ?_
      rintro e wq ⟨r, rfl, o7, b7⟩
      refine hK _ _ ⟨_, _, _, _, _, _, _, _, _, _, _, _, wq, rfl, ?_, CZ, bz, fun h => HI2.out.2.1 (by simpa using h), fun h => HI2.out.2.2 (by simpa using h), by simp [h11]⟩
      have hI := HI2.out.1
      exact ⟨fun h => hI.x0 (by simpa using h), fun h => (hI.x1 (by simpa using h)).below b7, fun h => hI.x2 (by simpa using h), fun _ => HEOwns.row o7, fun h => hI.x4 (by simpa using h), fun h => (hI.x5 (by simpa using h)).below b7, fun h => by obtain ⟨C, e, oA, t7, t8, t9⟩ := hI.x6 (by simpa using h); exact ⟨C, e, oA.below b7, fun h => t7 (by simpa using h), fun h => t8 (by simpa using h), fun h => t9 (by simpa using h)⟩, fun h => by obtain ⟨b, e, hz, hb⟩ := hI.x10 (by simpa using h); exact ⟨b, e, hz, (b7.block _ (Array.getElem?_eq_some_iff.1 hb).1).trans hb⟩, fun h => hI.x12 (by simpa using h), hI.bl.trans (b7.mono hI.bl.size), fun h => by have := hI.q7 (by simpa using h); simp [this], fun h => by have := hI.q8 (by simpa using h); simp [this], fun h => by have := hI.q9 (by simpa using h); simp [this], fun h => by have := hI.late (by simpa using h); exact ⟨by simp [this.1], fun i hi => by simp [this.2 i hi]⟩, fun h => by have := hI.late2 (by simpa using h); simp [this]⟩
    · obtain rfl := Option.some.inj hoj
      have h11 : f 11 = false := by
        cases h : f 11 with
        | false => rfl
        | true => exact absurd ((hI.late h).2 4 (by omega)) (by rw [hfj]; simp)
      obtain rfl : wx = wy := by rw [hwx, h11]; rfl
      clear hwx
      have HI2 : Hid _ := And.intro hI (And.intro hCZ hbz)
      clear hI hCZ hbz
      refine step_wpA rfl (wp_load_row 28 (.tmp 5) rfl (w.heap.size + 1) rfl 28 CB (0, 0) _ (HCL.out.1 wx HI2.out.1.bl).2.1 Tryz.underlying28 rfl SZCB.out ?_)
      refine hK _ _ ⟨_, _, _, _, _, _, _, _, _, _, _, _, wx, rfl, ?_, CZ, bz, fun h => HI2.out.2.1 (by simpa using h), fun h => HI2.out.2.2 (by simpa using h), by simp [h11]⟩
      have hI := HI2.out.1
      exact ⟨fun h => hI.x0 (by simpa using h), fun h => hI.x1 (by simpa using h), fun h => hI.x2 (by simpa using h), fun h => hI.x3 (by simpa using h), fun _ => rfl, fun h => hI.x5 (by simpa using h), fun h => by obtain ⟨C, e, oA, t7, t8, t9⟩ := hI.x6 (by simpa using h); exact ⟨C, e, oA, fun h => t7 (by simpa using h), fun h => t8 (by simpa using h), fun h => t9 (by simpa using h)⟩, fun h => by obtain ⟨b, e, hz, hb⟩ := hI.x10 (by simpa using h); exact ⟨b, e, hz, hb⟩, fun h => hI.x12 (by simpa using h), hI.bl, fun h => by have := hI.q7 (by simpa using h); simp [this], fun h => by have := hI.q8 (by simpa using h); simp [this], fun h => by have := hI.q9 (by simpa using h); simp [this], fun h => by have := hI.late (by simpa using h); exact ⟨by simp [this.1], fun i hi => by simp [this.2 i hi]⟩, fun h => by have := hI.late2 (by simpa using h); simp [this]⟩
    · obtain rfl := Option.some.inj hoj
      have h4_ := hall ⟨4, .data⟩ (by simp) rfl
      have h3_ := hall ⟨3, .chain⟩ (by simp) rfl
      have h11 : f 11 = false := by
        cases h : f 11 with
        | false => rfl
        | true => exact absurd ((hI.late h).2 5 (by omega)) (by rw [hfj]; simp)
      obtain rfl : wx = wy := by rw [hwx, h11]; rfl
      clear hwx
      obtain rfl := hI.x4 h4_
      have HI2 : Hid _ := And.intro hI (And.intro hCZ hbz)
      clear hI hCZ hbz
      go_simp
      go_at_call 7
      refine (TB2.out wx (HERow.below EN2.out.2 (HCL.out.1 wx HI2.out.1.bl).2.2)).mono ?_
      rintro e wq ⟨r, rfl, o7, b7⟩
      refine hK _ _ ⟨_, _, _, _, _, _, _, _, _, _, _, _, wq, rfl, ?_, CZ, bz, fun h => HI2.out.2.1 (by simpa using h), fun h => HI2.out.2.2 (by simpa using h), by simp [h11]⟩
      have hI := HI2.out.1
      exact ⟨fun h => hI.x0 (by simpa using h), fun h => (hI.x1 (by simpa using h)).below b7, fun h => hI.x2 (by simpa using h), fun h => (hI.x3 (by simpa using h)).below b7, fun h => hI.x4 (by simpa using h), fun _ => HEOwns.row o7, fun h => by obtain ⟨C, e, oA, t7, t8, t9⟩ := hI.x6 (by simpa using h); exact ⟨C, e, oA.below b7, fun h => t7 (by simpa using h), fun h => t8 (by simpa using h), fun h => t9 (by simpa using h)⟩, fun h => by obtain ⟨b, e, hz, hb⟩ := hI.x10 (by simpa using h); exact ⟨b, e, hz, (b7.block _ (Array.getElem?_eq_some_iff.1 hb).1).trans hb⟩, fun h => hI.x12 (by simpa using h), hI.bl.trans (b7.mono hI.bl.size), fun h => by have := hI.q7 (by simpa using h); simp [this], fun h => by have := hI.q8 (by simpa using h); simp [this], fun h => by have := hI.q9 (by simpa using h); simp [this], fun h => by have := hI.late (by simpa using h); exact ⟨by simp [this.1], fun i hi => by simp [this.2 i hi]⟩, fun h => by have := hI.late2 (by simpa using h); simp [this]⟩
    · obtain rfl := Option.some.inj hoj
      have h1_ := hall ⟨1, .data⟩ (by simp) rfl
      have h3_ := hall ⟨3, .data⟩ (by simp) rfl
      have h5_ := hall ⟨5, .data⟩ (by simp) rfl
      have h11 : f 11 = false := by
        cases h : f 11 with
        | false => rfl
        | true => exact absurd ((hI.late h).2 6 (by omega)) (by rw [hfj]; simp)
      obtain rfl : wx = wy := by rw [hwx, h11]; rfl
      clear hwx
      have HI2 : Hid _ := And.intro hI (And.intro hCZ hbz)
      clear hI hCZ hbz
      go_simp
      have n7 : f 7 = false := by
        cases h : f 7 with
        | false => rfl
        | true => exact absurd (HI2.out.1.q7 h) (by rw [hfj]; simp)
      have n8 : f 8 = false := by
        cases h : f 8 with
        | false => rfl
        | true => exact absurd (HI2.out.1.q8 h) (by rw [n7]; simp)
      have n9 : f 9 = false := by
        cases h : f 9 with
        | false => rfl
        | true => exact absurd (HI2.out.1.q9 h) (by rw [n7]; simp)
      go_at_call 8
      refine (HI.out.1 wx _ _ _ (HV.out.1 _ (HCL.out.1 wx HI2.out.1.bl).2.2) (HI2.out.1.x1 h1_) (HI2.out.1.x3 h3_) (HI2.out.1.x5 h5_)).mono ?_
      rintro e wq ⟨r, rfl, o7, b7⟩
      obtain ⟨C, rfl, -, -⟩ := ag_cells o7
      refine hK _ _ ⟨_, _, _, _, _, _, _, _, _, _, _, _, wq, rfl, ?_, C, bz, fun _ => rfl, fun h => HI2.out.2.2 (by simpa using h), by simp [h11]⟩
      have hI := HI2.out.1
      exact ⟨fun h => hI.x0 (by simpa using h), fun h => (hI.x1 (by simpa using h)).below b7, fun h => hI.x2 (by simpa using h), fun h => (hI.x3 (by simpa using h)).below b7, fun h => hI.x4 (by simpa using h), fun h => (hI.x5 (by simpa using h)).below b7, fun _ => ⟨C, rfl, AGOwns.mono o7 hI.bl.size, fun h => by simp [n7] at h, fun h => by simp [n8] at h, fun h => by simp [n9] at h⟩, fun h => by obtain ⟨b, e, hz, hb⟩ := hI.x10 (by simpa using h); exact ⟨b, e, hz, (b7.block _ (Array.getElem?_eq_some_iff.1 hb).1).trans hb⟩, fun h => hI.x12 (by simpa using h), hI.bl.trans (b7.mono hI.bl.size), fun h => by have := hI.q7 (by simpa using h); simp [this], fun h => by have := hI.q8 (by simpa using h); simp [this], fun h => by have := hI.q9 (by simpa using h); simp [this], fun h => by have := hI.late (by simpa using h); exact ⟨by simp [this.1], fun i hi => by simp [this.2 i hi]⟩, fun h => by have := hI.late2 (by simpa using h); simp [this]⟩
    · obtain rfl := Option.some.inj hoj
      have h6_ := hall ⟨6, .data⟩ (by simp) rfl
      have h11 : f 11 = false := by
        cases h : f 11 with
        | false => rfl
        | true => exact absurd ((hI.late h).2 7 (by omega)) (by rw [hfj]; simp)
      obtain rfl : wx = wy := by rw [hwx, h11]; rfl
      clear hwx
      obtain ⟨C, e40, oA, t7, t8, t9⟩ := hI.x6 h6_
      subst e40
      have HI2 : Hid _ := And.intro hI (And.intro hCZ hbz)
      clear hI hCZ hbz
      go_simp
      refine hK _ _ ⟨_, _, _, _, _, _, _, _, _, _, _, _, wx, rfl, ?_, CZ, bz, fun h => HI2.out.2.1 (by simpa using h), fun h => HI2.out.2.2 (by simpa using h), by simp [h11]⟩
      have hI := HI2.out.1
      exact ⟨fun h => hI.x0 (by simpa using h), fun h => hI.x1 (by simpa using h), fun h => hI.x2 (by simpa using h), fun h => hI.x3 (by simpa using h), fun h => hI.x4 (by simpa using h), fun h => hI.x5 (by simpa using h), fun _ => ⟨C, rfl, oA, fun _ => rfl, fun h => (by have := hI.q8 (by simpa using h); rw [hfj] at this; cases this), fun h => (by have := hI.q9 (by simpa using h); rw [hfj] at this; cases this)⟩, fun h => by obtain ⟨b, e, hz, hb⟩ := hI.x10 (by simpa using h); exact ⟨b, e, hz, hb⟩, fun h => hI.x12 (by simpa using h), hI.bl, fun _ => by simp [h6_], fun h => by have := hI.q8 (by simpa using h); simp [this], fun h => by have := hI.q9 (by simpa using h); simp [this], fun h => by have := hI.late (by simpa using h); exact ⟨by simp [this.1], fun i hi => by simp [this.2 i hi]⟩, fun h => by have := hI.late2 (by simpa using h); simp [this]⟩
    · obtain rfl := Option.some.inj hoj
      have h7_ := hall ⟨7, .data⟩ (by simp) rfl
      have h11 : f 11 = false := by
        cases h : f 11 with
        | false => rfl
        | true => exact absurd ((hI.late h).2 8 (by omega)) (by rw [hfj]; simp)
      obtain rfl : wx = wy := by rw [hwx, h11]; rfl
      clear hwx
      have h6_ := hI.q7 h7_
      obtain ⟨C, e40, oA, t7, t8, t9⟩ := hI.x6 h6_
      subst e40
      have e33 := t7 h7_
      subst e33
      have HI2 : Hid _ := And.intro hI (And.intro hCZ hbz)
      clear hI hCZ hbz
      go_simp
      refine hK _ _ ⟨_, _, _, _, _, _, _, _, _, _, _, _, wx, rfl, ?_, CZ, bz, fun h => HI2.out.2.1 (by simpa using h), fun h => HI2.out.2.2 (by simpa using h), by simp [h11]⟩
      have hI := HI2.out.1
      exact ⟨fun h => hI.x0 (by simpa using h), fun h => hI.x1 (by simpa using h), fun h => hI.x2 (by simpa using h), fun h => hI.x3 (by simpa using h), fun h => hI.x4 (by simpa using h), fun h => hI.x5 (by simpa using h), fun _ => ⟨C, rfl, oA, fun _ => rfl, fun _ => rfl, fun h => t9 (by simpa using h)⟩, fun h => by obtain ⟨b, e, hz, hb⟩ := hI.x10 (by simpa using h); exact ⟨b, e, hz, hb⟩, fun h => hI.x12 (by simpa using h), hI.bl, fun h => by have := hI.q7 (by simpa using h); simp [this], fun _ => by simp [h7_], fun h => by have := hI.q9 (by simpa using h); simp [this], fun h => by have := hI.late (by simpa using h); exact ⟨by simp [this.1], fun i hi => by simp [this.2 i hi]⟩, fun h => by have := hI.late2 (by simpa using h); simp [this]⟩
    · obtain rfl := Option.some.inj hoj
      have h7_ := hall ⟨7, .data⟩ (by simp) rfl
      have h6_ := hI.q7 h7_
      obtain ⟨C, e40, oA, t7, t8, t9⟩ := hI.x6 h6_
      subst e40
      have e33 := t7 h7_
      subst e33
      have HI2 : Hid _ := And.intro hI (And.intro hCZ (And.intro hbz hwx))
      clear hI hCZ hbz hwx
      go_simp
      refine hK _ _ ⟨_, _, _, _, _, _, _, _, _, _, _, _, wy, rfl, ?_, CZ, bz, fun h => HI2.out.2.1 (by simpa using h), fun h => HI2.out.2.2.1 (by simpa using h), by rw [HI2.out.2.2.2]; simp⟩
      have hI := HI2.out.1
      exact ⟨fun h => hI.x0 (by simpa using h), fun h => hI.x1 (by simpa using h), fun h => hI.x2 (by simpa using h), fun h => hI.x3 (by simpa using h), fun h => hI.x4 (by simpa using h), fun h => hI.x5 (by simpa using h), fun _ => ⟨C, rfl, oA, fun _ => rfl, fun h => t8 (by simpa using h), fun _ => rfl⟩, fun h => by obtain ⟨b, e, hz, hb⟩ := hI.x10 (by simpa using h); exact ⟨b, e, hz, hb⟩, fun h => hI.x12 (by simpa using h), hI.bl, fun h => by have := hI.q7 (by simpa using h); simp [this], fun h => by have := hI.q8 (by simpa using h); simp [this], fun _ => by simp [h7_], fun h => by have := hI.late (by simpa using h); exact ⟨by simp [this.1], fun i hi => by simp [this.2 i hi]⟩, fun h => by have := hI.late2 (by simpa using h); simp [this.1]⟩
    · obtain rfl := Option.some.inj hoj
      have h11 : f 11 = false := by
        cases h : f 11 with
        | false => rfl
        | true => exact absurd (hI.late h).1 (by rw [hfj]; simp)
      obtain rfl : wx = wy := by rw [hwx, h11]; rfl
      clear hwx
      have HI2 : Hid _ := And.intro hI (And.intro hCZ hbz)
      clear hI hCZ hbz
      go_simp
      refine hK _ _ ⟨_, _, _, _, _, _, _, _, _, _, _, _, wx.alloc (.cells #[.int .i64 0, .string ⟨#[]⟩, .slice none 0 0, .slice none 0 0, .slice none 0 0, .slice none 0 0, .slice none 0 0] 31), rfl, ?_, CZ, wx.heap.size, fun h => HI2.out.2.1 (by simpa using h), fun _ => rfl, by simp [h11]⟩
      have hI := HI2.out.1
      have b7 : Below wx.heap.size wx (wx.alloc (.cells #[.int .i64 0, .string ⟨#[]⟩, .slice none 0 0, .slice none 0 0, .slice none 0 0, .slice none 0 0, .slice none 0 0] 31)) := (Below.refl _ _).alloc (Nat.le_refl _) _
      exact ⟨fun h => hI.x0 (by simpa using h), fun h => (hI.x1 (by simpa using h)).below b7, fun h => hI.x2 (by simpa using h), fun h => (hI.x3 (by simpa using h)).below b7, fun h => hI.x4 (by simpa using h), fun h => (hI.x5 (by simpa using h)).below b7, fun h => by obtain ⟨C, e, oA, t7, t8, t9⟩ := hI.x6 (by simpa using h); exact ⟨C, e, oA.below b7, fun h => t7 (by simpa using h), fun h => t8 (by simpa using h), fun h => t9 (by simpa using h)⟩, fun _ => ⟨_, rfl, hI.bl.size, heap_alloc_new wx _⟩, fun h => hI.x12 (by simpa using h), hI.bl.trans (b7.mono hI.bl.size), fun h => by have := hI.q7 (by simpa using h); simp [this], fun h => by have := hI.q8 (by simpa using h); simp [this], fun h => by have := hI.q9 (by simpa using h); simp [this], fun h => by have := hI.late (by simpa using h); exact ⟨by simp [this.1], fun i hi => by simp [this.2 i hi]⟩, fun h => by have := hI.late2 (by simpa using h); simp [this]⟩
    · obtain rfl := Option.some.inj hoj
      have h10_ := hall ⟨10, .data⟩ (by simp) rfl
      have h8_ := hall ⟨8, .data⟩ (by simp) rfl
      have h6_ := hall ⟨6, .chain⟩ (by simp) rfl
      have h11 : f 11 = false := hfj
      obtain rfl : wx = wy := by rw [hwx, h11]; rfl
      clear hwx
      have h7_ := hI.q8 h8_
      obtain ⟨C, e40, oA, t7, t8, t9⟩ := hI.x6 h6_
      subst e40
      have e33 := t7 h7_
      subst e33
      have e41 := t8 h8_
      subst e41
      obtain ⟨b, e8, hz, hb⟩ := hI.x10 h10_
      subst e8
      have eC := hCZ h6_
      obtain rfl : C = CZ := by cases eC; rfl
      have eb := hbz h10_
      obtain rfl : b = bz := by cases eb; rfl
      obtain ⟨C2, eC2, cs7, call⟩ := ag_cells oA
      obtain rfl : C = C2 := by cases eC2; rfl
      have HI2 : Hid _ := And.intro hI (And.intro hCZ hbz)
      clear hI hCZ hbz
      refine step_wpA rfl (wp_store_row 31 (.tmp 18) (.tmp 121) rfl b C rfl rfl 31 #[.int .i64 0, .string ⟨#[]⟩, .slice none 0 0, .slice none 0 0, .slice none 0 0, .slice none 0 0, .slice none 0 0] hb (by rw [cs7]; exact infoAG7) (by rw [cs7]; rfl) call ?_)
      refine hK _ _ ⟨_, _, _, _, _, _, _, _, _, _, _, _, wx, rfl, ?_, C, b, fun h => HI2.out.2.1 (by simpa using h), fun h => HI2.out.2.2 (by simpa using h), by simp⟩
      have hI := HI2.out.1
      have hAll : ∀ i, i < 9 → f i = true := by
        intro i hi
        obtain rfl | rfl | rfl | rfl | rfl | rfl | rfl | rfl | rfl : i = 0 ∨ i = 1 ∨ i = 2 ∨ i = 3 ∨ i = 4 ∨ i = 5 ∨ i = 6 ∨ i = 7 ∨ i = 8 := by omega
        all_goals exact hall ⟨_, .phase⟩ (by simp) rfl
      exact ⟨fun h => hI.x0 (by simpa using h), fun h => hI.x1 (by simpa using h), fun h => hI.x2 (by simpa using h), fun h => hI.x3 (by simpa using h), fun h => hI.x4 (by simpa using h), fun h => hI.x5 (by simpa using h), fun h => by obtain ⟨C, e, oA, t7, t8, t9⟩ := hI.x6 (by simpa using h); exact ⟨C, e, oA, fun h => t7 (by simpa using h), fun h => t8 (by simpa using h), fun h => t9 (by simpa using h)⟩, fun h => by obtain ⟨b, e, hz, hb⟩ := hI.x10 (by simpa using h); exact ⟨b, e, hz, hb⟩, fun h => hI.x12 (by simpa using h), hI.bl, fun h => by have := hI.q7 (by simpa using h); simp [this], fun h => by have := hI.q8 (by simpa using h); simp [this], fun h => by have := hI.q9 (by simpa using h); simp [this], fun _ => ⟨by simp [h10_], fun i hi => by simp [hAll i hi]⟩, fun h => by have := hI.late2 (by simpa using h); simp [this]⟩
    · obtain rfl := Option.some.inj hoj
      have h9_ := hall ⟨9, .data⟩ (by simp) rfl
      have h11_ := hall ⟨11, .chain⟩ (by simp) rfl
      have h11_ := h11_
      have h7_ := hI.q9 h9_
      have h6_ := hI.q7 h7_
      obtain ⟨C, e40, oA, t7, t8, t9⟩ := hI.x6 h6_
      have e42 := t9 h9_
      subst e42
      clear e40 oA t7 t8 t9
      have HI2 : Hid _ := And.intro hI (And.intro hCZ (And.intro hbz hwx))
      clear hI hCZ hbz hwx
      go_simp
      refine hK _ _ ⟨_, _, _, _, _, _, _, _, _, _, _, _, wy, rfl, ?_, CZ, bz, fun h => HI2.out.2.1 (by simpa using h), fun h => HI2.out.2.2.1 (by simpa using h), by rw [HI2.out.2.2.2]; simp⟩
      have hI := HI2.out.1
      exact ⟨fun h => hI.x0 (by simpa using h), fun h => hI.x1 (by simpa using h), fun h => hI.x2 (by simpa using h), fun h => hI.x3 (by simpa using h), fun h => hI.x4 (by simpa using h), fun h => hI.x5 (by simpa using h), fun h => by obtain ⟨C, e, oA, t7, t8, t9⟩ := hI.x6 (by simpa using h); exact ⟨C, e, oA, fun h => t7 (by simpa using h), fun h => t8 (by simpa using h), fun h => t9 (by simpa using h)⟩, fun h => by obtain ⟨b, e, hz, hb⟩ := hI.x10 (by simpa using h); exact ⟨b, e, hz, hb⟩, fun _ => rfl, hI.bl, fun h => by have := hI.q7 (by simpa using h); simp [this], fun h => by have := hI.q8 (by simpa using h); simp [this], fun h => by have := hI.q9 (by simpa using h); simp [this], fun h => by have := hI.late (by simpa using h); exact ⟨by simp [this.1], fun i hi => by simp [this.2 i hi]⟩, fun _ => by simp [h11_, h9_]⟩
  case done =>
  intro f a wx hInv hall
  obtain ⟨y37_34, y37_35, y37_36, y37_37, y37_38, y37_39, y37_40, y37_33, y37_41, y37_42, y37_8, y37_9, wy, rfl, hI, CZ, bz, hCZ, hbz, hwx⟩ := hInv
  obtain ⟨C, e40, oA, t7, t8, t9⟩ := hI.x6 (hall 6 (by decide))
  have eC := hCZ (hall 6 (by decide))
  obtain rfl : C = CZ := by rw [e40] at eC; cases eC; rfl
  obtain ⟨b, e8, hz, hb⟩ := hI.x10 (hall 10 (by decide))
  have eb := hbz (hall 10 (by decide))
  obtain rfl : b = bz := by rw [e8] at eb; cases eb; rfl
  have e9 := hI.x12 (hall 12 (by decide))
  have e33 := t7 (hall 7 (by decide))
  have e41 := t8 (hall 8 (by decide))
  have e42 := t9 (hall 9 (by decide))
  rw [hall 11 (by decide), if_pos rfl] at hwx
  obtain ⟨CH, eC2, cs7, call⟩ := ag_cells oA
  obtain rfl : C = CH := by cases eC2; rfl
  have SZCH : Hid ((Tryz.prog.info? 31).map (·.size) = some C.size) := by rw [cs7]; exact infoAG7
  have kH : wx.heap[b]? = some (.cells C 31 (0, 0)) := by rw [hwx]; exact setRow_heap _ _ _ _ _ _ hb
  have oo : AGOwns wx w18.heap.size (.agg C) z := by rw [hwx]; exact ag_blk oA (setRow_grownA _ _ _) hb
  have bb : Below w18.heap.size w18 wx := by rw [hwx]; exact below_setRow hI.bl hz _
  obtain ⟨bH, ebb⟩ : ∃ x, x = b := ⟨_, rfl⟩
  obtain ⟨CH, eCC⟩ : ∃ x, x = C := ⟨_, rfl⟩
  rw [← ebb] at kH hz e8
  rw [← eCC] at kH oo SZCH e41 e40
  have lbH : bH < wx.heap.size := (Array.getElem?_eq_some_iff.1 kH).1
  subst e9
  subst e8
  dsimp only
  clear hI e33 e41 e42 e40 eC eb hCZ hbz oA hb eC2 cs7 call t7 t8 t9 hall eCC ebb HCL
  obtain ⟨w19, ew⟩ : ∃ x, x = wx := ⟨_, rfl⟩
  rw [← ew] at kH oo bb lbH ⊢
  clear ew hwx
  have z_22 : w18.heap.size ≤ w19.heap.size := bb.size
  have bA_22 : Hid (w19.heap[w.heap.size]? = some (.cells CA 28 (0, 0))) := (bb.block _ (Array.getElem?_eq_some_iff.1 bA_21.out).1).trans bA_21.out
  have bB_22 : Hid (w19.heap[(w.heap.size + 1)]? = some (.cells CB 28 (0, 0))) := (bb.block _ (Array.getElem?_eq_some_iff.1 bB_21.out).1).trans bB_21.out
  have bS_22 : Hid (w19.heap[bS]? = some (.cells CS 31 (0, 0))) := (bb.block _ (Array.getElem?_eq_some_iff.1 bS_21.out).1).trans bS_21.out
  have AS_22 : Hid _ := And.intro (AGOwns.below AS_21.out.1 bb) AS_21.out.2
  have AG_22 : Hid _ := And.intro (AGOwns.below AG_21.out.1 bb) AG_21.out.2
  have bG_22 : Hid (w19.heap[w7.heap.size]? = some (.cells CG 31 (0, 0))) := (bb.block _ (Array.getElem?_eq_some_iff.1 bG_21.out).1).trans bG_21.out
  have C_22 : Hid _ := And.intro (C_21.out.1.trans (bb.mono C_21.out.1.size)) True.intro
  clear bA_21 bB_21 bS_21 AS_21 AG_21 bG_21 C_21
  have bH_22 : Hid (w19.heap[bH]? = some (.cells CH 31 (0, 0))) := kH
  have AH_22 : Hid _ := And.intro oo (fun g (hg : AGBlk _ g) => AGOwns.blk oo g hg)
  clear kH oo bb
  go_wp2_with (first | (refine wpList_load_row rfl 31 _ rfl bH rfl 31 CH (0, 0) _ bH_22.out Tryz.underlying31 rfl SZCH.out ?_) | (refine wpList_load_row rfl 31 _ rfl bS rfl 31 CS (0, 0) _ bS_22.out Tryz.underlying31 rfl SZCS.out ?_))
  go_at_call 9
  refine (eqAg_same _ _ z _ (AGOwns.row AH_22.out.1) (AGOwns.row AS_22.out.1) (ag_small LR.out.1)).mono ?_
  rintro e w20 ⟨rfl, bq⟩
  have z_23 : w19.heap.size ≤ w20.heap.size := bq.size
  have bA_23 : Hid (w20.heap[w.heap.size]? = some (.cells CA 28 (0, 0))) := (bq.block _ (Array.getElem?_eq_some_iff.1 bA_22.out).1).trans bA_22.out
  have bB_23 : Hid (w20.heap[(w.heap.size + 1)]? = some (.cells CB 28 (0, 0))) := (bq.block _ (Array.getElem?_eq_some_iff.1 bB_22.out).1).trans bB_22.out
  have bS_23 : Hid (w20.heap[bS]? = some (.cells CS 31 (0, 0))) := (bq.block _ (Array.getElem?_eq_some_iff.1 bS_22.out).1).trans bS_22.out
  have AS_23 : Hid _ := And.intro (AGOwns.below AS_22.out.1 bq) AS_22.out.2
  have AG_23 : Hid _ := And.intro (AGOwns.below AG_22.out.1 bq) AG_22.out.2
  have bG_23 : Hid (w20.heap[w7.heap.size]? = some (.cells CG 31 (0, 0))) := (bq.block _ (Array.getElem?_eq_some_iff.1 bG_22.out).1).trans bG_22.out
  have bH_23 : Hid (w20.heap[bH]? = some (.cells CH 31 (0, 0))) := (bq.block _ (Array.getElem?_eq_some_iff.1 bH_22.out).1).trans bH_22.out
  have AH_23 : Hid _ := And.intro (AGOwns.below AH_22.out.1 bq) AH_22.out.2
  have C_23 : Hid _ := And.intro (C_22.out.1.trans (bq.mono C_22.out.1.size)) True.intro
  clear bA_22 bB_22 bS_22 AS_22 AG_22 bG_22 bH_22 AH_22 C_22
  clear bq
  go_wp2_with (refine wpList_load_row rfl 31 _ rfl w7.heap.size rfl 31 CG (0, 0) _ bG_23.out Tryz.underlying31 rfl SZCG.out ?_)
  go_at_call 15
  refine (heldAg 1 _ z _ (ag_small LR.out.1) (by decide) (by decide) (AGOwns.row AG_23.out.1)).mono ?_
  rintro e w21 ⟨rfl, bh⟩
  have z_24 : w20.heap.size ≤ w21.heap.size := bh.size
  have bA_24 : Hid (w21.heap[w.heap.size]? = some (.cells CA 28 (0, 0))) := (bh.block _ (Array.getElem?_eq_some_iff.1 bA_23.out).1).trans bA_23.out
  have bB_24 : Hid (w21.heap[(w.heap.size + 1)]? = some (.cells CB 28 (0, 0))) := (bh.block _ (Array.getElem?_eq_some_iff.1 bB_23.out).1).trans bB_23.out
  have bS_24 : Hid (w21.heap[bS]? = some (.cells CS 31 (0, 0))) := (bh.block _ (Array.getElem?_eq_some_iff.1 bS_23.out).1).trans bS_23.out
  have AS_24 : Hid _ := And.intro (AGOwns.below AS_23.out.1 bh) AS_23.out.2
  have AG_24 : Hid _ := And.intro (AGOwns.below AG_23.out.1 bh) AG_23.out.2
  have bG_24 : Hid (w21.heap[w7.heap.size]? = some (.cells CG 31 (0, 0))) := (bh.block _ (Array.getElem?_eq_some_iff.1 bG_23.out).1).trans bG_23.out
  have bH_24 : Hid (w21.heap[bH]? = some (.cells CH 31 (0, 0))) := (bh.block _ (Array.getElem?_eq_some_iff.1 bH_23.out).1).trans bH_23.out
  have AH_24 : Hid _ := And.intro (AGOwns.below AH_23.out.1 bh) AH_23.out.2
  have C_24 : Hid _ := And.intro (C_23.out.1.trans (bh.mono C_23.out.1.size)) True.intro
  clear bA_23 bB_23 bS_23 AS_23 AG_23 bG_23 bH_23 AH_23 C_23
  clear bh
  rw [← HM.out.1]
  go_wp2
  go_ret
  exact ⟨rfl, C_24.out.1⟩
end Go.Proofs.YteggfkekgdlecaaGreatDoor
