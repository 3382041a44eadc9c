import Derived.Test.YtjdmknlcjejecaaISecret
namespace Go.Proofs.Ytjdmknlcjejecaa
open Go.RowKit
set_option linter.unusedVariables false

theorem row_part {w : World} {g t off n : Nat} {fr : Nat × Nat} {xs : List Int} (h : w.heap[g]? = some (.cells (u8s xs).toArray t fr)) (hn : off + n ≤ xs.length) (hm : n ≤ maxLen) : Row w .u8 (.slice (some ⟨g, off, none⟩) n n) ((xs.drop off).take n) := by
  have := row_cut (w := w) (k := .u8) (xs := xs) (b := g) (off := 0) (cap := 0) (at' := off) (n := n) (cap' := n) (Array.getElem?_eq_some_iff.1 h).1 (fun j hj => ?_) hn ⟨Nat.le_refl _, hm⟩
  · rwa [Nat.zero_add] at this
  · rw [Nat.zero_add, blkS_cell h]
    simp [u8s, List.getD, hj]
theorem inL_a (k : K4) (h : kok k) : ((inL k).drop 0).take 16 = k.a := by
  simp only [inL, List.drop_zero, List.append_assoc]
  rw [List.take_left' h.1]
theorem inL_b (k : K4) (h : kok k) : ((inL k).drop 16).take 16 = k.b := by
  simp only [inL, List.append_assoc]
  rw [List.drop_left' h.1, List.take_left' h.2.1]
theorem inL_d (k : K4) (h : kok k) : ((inL k).drop 32).take 16 = k.d := by
  have e : (k.a ++ k.b).length = 32 := by simp [h.1, h.2.1]
  have e2 : inL k = (k.a ++ k.b) ++ (k.d ++ k.c) := by simp [inL, List.append_assoc]
  rw [e2, List.drop_left' e, List.take_left' h.2.2.2]
theorem inL_c (k : K4) (h : kok k) : ((inL k).drop 48).take 8 = k.c := by
  have e : (k.a ++ k.b ++ k.d).length = 48 := by simp [h.1, h.2.1, h.2.2.2]
  have e2 : inL k = (k.a ++ k.b ++ k.d) ++ k.c := rfl
  rw [e2, List.drop_left' e, List.take_of_length_le (by rw [h.2.2.1]; decide)]
/-- The four parts of inner keys in a block. -/
theorem inL_rows {w : World} {g t : Nat} {k : K4} (h : w.heap[g]? = some (.cells (u8s (inL k)).toArray t (0, 0))) (hk : kok k) :
    Row w .u8 (.slice (some ⟨g, 0, none⟩) 16 16) k.a ∧ Row w .u8 (.slice (some ⟨g, 16, none⟩) 16 16) k.b ∧ Row w .u8 (.slice (some ⟨g, 32, none⟩) 16 16) k.d ∧ Row w .u8 (.slice (some ⟨g, 48, none⟩) 8 8) k.c := by
  have hl := inL_length k hk
  refine ⟨?_, ?_, ?_, ?_⟩
  · rw [← inL_a k hk]; exact row_part h (by omega) (by decide)
  · rw [← inL_b k hk]; exact row_part h (by omega) (by decide)
  · rw [← inL_d k hk]; exact row_part h (by omega) (by decide)
  · rw [← inL_c k hk]; exact row_part h (by omega) (by decide)

theorem step_store_at {P : Program} {ops : Array Oper} {o : Oper} {a : Act} {w : World} {K : Act → World → Prop} {Q : Exit → Act → World → Prop} {E : Prop} (hgd : o.guard = none) (ty : TypeId) (x y : Operand) (ho : o.op = .store ty x y)
    (g : Nat) (cells : Array Value) (hx : a.eval x = .pointer (some ⟨g, 0, none⟩)) (hy : a.eval y = .agg cells)
    (t : TypeId) (old : Array Value) (hg : w.heap[g]? = some (.cells old t (0, 0))) (hi : (P.info? ty).map (·.size) = some cells.size)
    (hold : old.size = cells.size) (h1 : cells.all (·.oneCell') = true)
    (h : ∀ w', w'.heap[g]? = some (.cells cells t (0, 0)) → Only (some g) w w' → K (a.put o.dst undef) w') :
    if Region.wanted o (yielded ops a.tmps) = true then Oper.wp P o a w K Q else E := by
  have hw : Region.wanted o (yielded ops a.tmps) = true := by simp [Region.wanted, hgd]
  rw [if_pos hw]
  exact wp_store_row ty x y ho g cells hx hy t old hg hi hold h1 (h _ (setRow_heap w g old cells t _ hg) (only_setRow w g cells))

theorem grown_belowO {w w' : World} (h : w.grownBy w' none) : Below w.heap.size w w' := (Below.refl _ _).grown h (Nat.le_refl _) (by intro k hk; cases hk)

theorem outer_end (z : K4) {w w0 w1 w2 w3 w4 : World} {v1 v2 v3 v4 : Value} (C : Below w.heap.size w w0) (hz : w.heap.size + 1 < w0.heap.size)
    (b1 : Below w0.heap.size w0 w1) (b2 : Below w1.heap.size w1 w2) (b3 : Below w2.heap.size w2 w3) (b4 : Below w3.heap.size w3 w4)
    (o1 : w1.ownsRow w0.heap.size 5 1 v1 z.a.length (z.a.map (Value.int .u8))) (o2 : w2.ownsRow w1.heap.size 5 1 v2 z.b.length (z.b.map (Value.int .u8)))
    (o3 : w3.ownsRow w2.heap.size 5 1 v3 z.c.length (z.c.map (Value.int .u8))) (o4 : w4.ownsRow w3.heap.size 5 1 v4 z.d.length (z.d.map (Value.int .u8))) :
    KOwn ((((w4.setCell ⟨w.heap.size + 1, 0, none⟩ v1).setCell ⟨w.heap.size + 1, 1, none⟩ v2).setCell ⟨w.heap.size + 1, 2, none⟩ v3).setCell ⟨w.heap.size + 1, 3, none⟩ v4) w.heap.size v1 v2 v3 v4 z ∧
    Below w.heap.size w ((((w4.setCell ⟨w.heap.size + 1, 0, none⟩ v1).setCell ⟨w.heap.size + 1, 1, none⟩ v2).setCell ⟨w.heap.size + 1, 2, none⟩ v3).setCell ⟨w.heap.size + 1, 3, none⟩ v4) := by
  have z1 := b1.size
  have z2 := b2.size
  have z3 := b3.size
  have z4 := b4.size
  have c4 : Below w.heap.size w w4 := (((C.trans (b1.mono (by omega))).trans (b2.mono (by omega))).trans (b3.mono (by omega))).trans (b4.mono (by omega))
  have m0 := owns_mono (owns_below (owns_below (owns_below o1 b2) b3) b4) (base' := w.heap.size + 2) (by omega)
  have m1 := owns_mono (owns_below (owns_below o2 b3) b4) (base' := w.heap.size + 2) (by omega)
  have m2 := owns_mono (owns_below o3 b4) (base' := w.heap.size + 2) (by omega)
  have m3 := owns_mono o4 (base' := w.heap.size + 2) (by omega)
  have fin : ∀ {n : Nat} {v : Value} {xs : List Value}, w4.ownsRow (w.heap.size + 2) 5 1 v n xs → _ := fun h => owns_mono (owns_cell3 (i := 3) (u := v4) (owns_cell3 (i := 2) (u := v3) (owns_cell3 (i := 1) (u := v2) (owns_cell3 (i := 0) (u := v1) h (g := w.heap.size + 1) (by omega)) (g := w.heap.size + 1) (by omega)) (g := w.heap.size + 1) (by omega)) (g := w.heap.size + 1) (by omega)) (base' := w.heap.size) (by omega)
  refine ⟨⟨fin m0, fin m1, fin m2, fin m3, ?_, ?_, ?_, ?_, ?_, ?_⟩, ?_⟩
  · exact apart_later o1 o2 (Nat.le_refl _)
  · exact apart_later o1 o3 z2
  · exact apart_later o1 o4 (by omega)
  · exact apart_later o2 o3 (Nat.le_refl _)
  · exact apart_later o2 o4 z3
  · exact apart_later o3 o4 (Nat.le_refl _)
  · exact (((c4.setCell (by simp) _).setCell (by simp) _).setCell (by simp) _).setCell (by simp) _

set_option maxRecDepth 20000 in
set_option maxHeartbeats 8000000 in
theorem outer_ok (z : K4) (w : World) (hz : kok z) :
    Calls Try.prog 33 #[.agg (u8s (inL z)).toArray] w fun e w' => ∃ r, e = .returned r ∧ KOwns w' w.heap.size r z ∧ Below w.heap.size w w' := by
  have B0 : Book _ [(w.heap.size + 1, _), (w.heap.size, _)] := book_new2 w (.cells (u8s (inL z)).toArray 60 (0, 0)) (.cells #[.slice none 0 0, .slice none 0 0, .slice none 0 0, .slice none 0 0] 24 (0, 0))
  have C0 : Below w.heap.size w ((w.alloc (.cells (u8s (inL z)).toArray 60 (0, 0))).alloc (.cells #[.slice none 0 0, .slice none 0 0, .slice none 0 0, .slice none 0 0] 24 (0, 0))) := ((Below.refl _ _).alloc (Nat.le_refl _) _).alloc (by simp) _
  have H0 : Hid _ := And.intro B0.drew (And.intro (below_drewN C0 1) hz)
  clear B0 C0 hz
  go_enter Try.func33, Try.ntmps33
  go_upto_region 1 with fail
  go_region_law (first
    | (refine step_append_row rfl (.const _) (.tmp 4) rfl _ (.slice none 0 0) 0 [] rfl (World.ownsRow_nil _ _ _ _) (.slice (some ⟨w.heap.size, 0, none⟩) 16 16) z.a rfl (inL_rows (H0.out.1.blk _ _ (List.mem_cons_of_mem _ (List.mem_cons_self ..))) H0.out.2.2).1 (by rw [H0.out.2.2.1]; decide) (Nat.le_refl _) ?_; intro q1 w1 o1 g1; obtain ⟨a1, p1, f1⟩ := (row_of_owns o1).form; subst f1; have H1 := H0.out.1.below (grown_belowO g1))
    | (refine step_append_row rfl (.const _) (.tmp 7) rfl _ (.slice none 0 0) 0 [] rfl (World.ownsRow_nil _ _ _ _) (.slice (some ⟨w.heap.size, 16, none⟩) 16 16) z.b rfl (inL_rows (H1.blk _ _ (List.mem_cons_of_mem _ (List.mem_cons_self ..))) H0.out.2.2).2.1 (by rw [H0.out.2.2.2.1]; decide) (Nat.le_refl _) ?_; intro q2 w2 o2 g2; obtain ⟨a2, p2, f2⟩ := (row_of_owns o2).form; subst f2; have H2 := H1.below (grown_belowO g2))
    | (refine step_append_row rfl (.const _) (.tmp 10) rfl _ (.slice none 0 0) 0 [] rfl (World.ownsRow_nil _ _ _ _) (.slice (some ⟨w.heap.size, 48, none⟩) 8 8) z.c rfl (inL_rows (H2.blk _ _ (List.mem_cons_of_mem _ (List.mem_cons_self ..))) H0.out.2.2).2.2.2 (by rw [H0.out.2.2.2.2.1]; decide) (Nat.le_refl _) ?_; intro q3 w3 o3 g3; obtain ⟨a3, p3, f3⟩ := (row_of_owns o3).form; subst f3; have H3 := H2.below (grown_belowO g3))
    | (refine step_append_row rfl (.const _) (.tmp 13) rfl _ (.slice none 0 0) 0 [] rfl (World.ownsRow_nil _ _ _ _) (.slice (some ⟨w.heap.size, 32, none⟩) 16 16) z.d rfl (inL_rows (H3.blk _ _ (List.mem_cons_of_mem _ (List.mem_cons_self ..))) H0.out.2.2).2.2.1 (by rw [H0.out.2.2.2.2.2]; decide) (Nat.le_refl _) ?_; intro q4 w4 o4 g4; obtain ⟨a4, p4, f4⟩ := (row_of_owns o4).form; subst f4; have H4 := H3.below (grown_belowO g4); obtain ⟨c0, c1, c2, c3⟩ := H4.c4 (b := w.heap.size + 1) (x0 := .slice none 0 0) (x1 := .slice none 0 0) (x2 := .slice none 0 0) (x3 := .slice none 0 0) (t := 24) (List.mem_cons_self ..); have f0 := bk_free (H4.blk _ _ (List.mem_cons_self ..)) 0; have f1 := bk_free (H4.blk _ _ (List.mem_cons_self ..)) 1; have f2 := bk_free (H4.blk _ _ (List.mem_cons_self ..)) 2; have f3 := bk_free (H4.blk _ _ (List.mem_cons_self ..)) 3))
  all_goals
    have hz0 : w.heap.size + 1 < ((w.alloc (.cells (u8s (inL z)).toArray 60 (0, 0))).alloc (.cells #[.slice none 0 0, .slice none 0 0, .slice none 0 0, .slice none 0 0] 24 (0, 0))).drew.heap.size := H0.out.1.lt (List.mem_cons_self ..)
    have E := outer_end z H0.out.2.1 hz0 (grown_belowO g1) (grown_belowO g2) (grown_belowO g3) (grown_belowO g4) (by simpa using o1) (by simpa using o2) (by simpa using o3) (by simpa using o4)
    have HE : Hid _ := And.intro E (H4.blk _ _ (List.mem_cons_self ..))
    clear E o1 o2 o3 o4 g1 g2 g3 g4 H1 H2 H3 H4 c0 c1 c2 c3 f0 f1 f2 f3 hz0
    go_wp2_with fail
    try simp only [Exit.inBlock, Exit.then]
    refine bodyPost_ret (v := .agg #[.slice a1 z.a.length p1, .slice a2 z.b.length p2, .slice a3 z.c.length p3, .slice a4 z.d.length p4]) ?_ rfl ?_
    · refine results_cell_row (t := 24) rfl _ _ (w.heap.size + 1) _ (fr := (0, 0)) _ rfl ?_ Try.underlying24 rfl infoKeys4
      rw [bk_set (bk_set (bk_set (bk_set HE.out.2 0 _) 1 _) 2 _) 3 _]
      rfl
    · exact ⟨_, rfl, ⟨_, _, _, _, rfl, HE.out.1.1⟩, HE.out.1.2⟩
end Go.Proofs.Ytjdmknlcjejecaa
