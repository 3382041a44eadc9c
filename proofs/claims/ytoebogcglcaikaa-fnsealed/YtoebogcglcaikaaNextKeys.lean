import Derived.Test.YtoebogcglcaikaaKeysOK
import Derived.Test.YtoebogcglcaikaaKeysOf
namespace Go.Proofs.Ytoebogcglcaikaa
open Go.RowKit
set_option linter.unusedVariables false

/-- The keys behind these. -/
def nxtK (k : K4) : K4 := ⟨derV k.a lNext 16, derV (derV k.a lNext 16) lKey 16, derV (derV k.a lNext 16) lIv 8, k.d⟩
theorem next_len (k : K4) (h : kok k) : (derV k.a lNext 16).length = 16 := by
  unfold derV
  rw [if_pos ⟨h.1, by decide, by decide, by decide⟩]
  exact drvV_length _ _ _ (by decide)
set_option maxHeartbeats 1000000 in
theorem nextKeys_bad (v : Value) (k : K4) (w : World) (h : KRow w v k) (hk : ¬ kok k) :
    Calls Try.prog 12 #[v] w fun e w' => ∃ r, e = .returned r ∧ KOwns w' w.heap.size r kZero ∧ Below w.heap.size w w' := by
  obtain ⟨v0, v1, v2, v3, rfl, r0, r1, r2, r3⟩ := h
  have WB : Below w.heap.size w ((w.alloc (.cells #[v0, v1, v2, v3] 24)).alloc (.cells #[.slice none 0 0, .slice none 0 0, .slice none 0 0, .slice none 0 0] 24)) := ((Below.refl _ _).alloc (Nat.le_refl _) _).alloc (by simp) _
  have C := kok_false (.agg #[v0, v1, v2, v3]) k _ ⟨v0, v1, v2, v3, rfl, r0.below WB, r1.below WB, r2.below WB, r3.below WB⟩ hk
  have HW : Hid _ := And.intro WB (bk_new2 w (.cells #[v0, v1, v2, v3] 24) (.cells #[.slice none 0 0, .slice none 0 0, .slice none 0 0, .slice none 0 0] 24)).2
  clear r0 r1 r2 r3 WB hk
  go_enter Try.func12, Try.ntmps12
  go_wp2_with fail
  go_at_call 14
  refine C.mono ?_
  rintro e w1 ⟨rfl, b1⟩
  have k1 : w1.heap[w.heap.size + 1]? = some (.cells #[.slice none 0 0, .slice none 0 0, .slice none 0 0, .slice none 0 0] 24 (0, 0)) := (b1.block _ (by simp)).trans HW.out.2
  have y0 : w1.cell? ⟨w.heap.size + 1, 0, none⟩ = some (.slice none 0 0) := by rw [bk_cell k1]; rfl
  have f0 : w1.frozen? ⟨w.heap.size + 1, 0, none⟩ = false := bk_free k1 0
  have y1 : w1.cell? ⟨w.heap.size + 1, 1, none⟩ = some (.slice none 0 0) := by rw [bk_cell k1]; rfl
  have f1 : w1.frozen? ⟨w.heap.size + 1, 1, none⟩ = false := bk_free k1 1
  have y2 : w1.cell? ⟨w.heap.size + 1, 2, none⟩ = some (.slice none 0 0) := by rw [bk_cell k1]; rfl
  have f2 : w1.frozen? ⟨w.heap.size + 1, 2, none⟩ = false := bk_free k1 2
  have y3 : w1.cell? ⟨w.heap.size + 1, 3, none⟩ = some (.slice none 0 0) := by rw [bk_cell k1]; rfl
  have f3 : w1.frozen? ⟨w.heap.size + 1, 3, none⟩ = false := bk_free k1 3
  have H1 : Hid _ := And.intro k1 (HW.out.1.trans (b1.mono (by simp <;> omega)))
  clear k1 b1 C
  go_wp2
  try simp only [Exit.inBlock, Exit.then]
  refine bodyPost_ret (v := .agg #[.slice none 0 0, .slice none 0 0, .slice none 0 0, .slice none 0 0]) ?_ rfl ?_
  · refine results_cell_row (t := 24) rfl _ _ (w.heap.size + 1) _ (fr := (0, 0)) _ rfl ?_ Try.underlying24 rfl infoKeys4
    rw [bk_set (bk_set (bk_set (bk_set H1.out.1 0 _) 1 _) 2 _) 3 _]
    rfl
  · exact ⟨_, rfl, kzero_owns _ _, (((H1.out.2.setCell (by simp) _).setCell (by simp) _).setCell (by simp) _).setCell (by simp) _⟩

set_option maxHeartbeats 2000000 in
theorem nextKeys_ok (v : Value) (k : K4) (w : World) (h : KRow w v k) (hB : k.bytes) (hk : kok k) :
    Calls Try.prog 12 #[v] w fun e w' => ∃ r, e = .returned r ∧ KOwns w' w.heap.size r (nxtK k) ∧ Below w.heap.size w w' := by
  obtain ⟨v0, v1, v2, v3, rfl, r0, r1, r2, r3⟩ := h
  have WB : Below w.heap.size w ((w.alloc (.cells #[v0, v1, v2, v3] 24)).alloc (.cells #[.slice none 0 0, .slice none 0 0, .slice none 0 0, .slice none 0 0] 24)) := ((Below.refl _ _).alloc (Nat.le_refl _) _).alloc (by simp) _
  have C := kok_true (.agg #[v0, v1, v2, v3]) k _ ⟨v0, v1, v2, v3, rfl, r0.below WB, r1.below WB, r2.below WB, r3.below WB⟩ hk
  have HR : Hid _ := And.intro (And.intro r0 (And.intro r3 hB)) hk
  have HW : Hid _ := And.intro WB (bk_new2 w (.cells #[v0, v1, v2, v3] 24) (.cells #[.slice none 0 0, .slice none 0 0, .slice none 0 0, .slice none 0 0] 24))
  clear r0 r1 r2 r3 WB hk hB
  go_enter Try.func12, Try.ntmps12
  go_wp2_with fail
  go_at_call 14
  refine C.mono ?_
  rintro e w1 ⟨rfl, b1⟩
  have k0 : w1.heap[w.heap.size]? = some (.cells #[v0, v1, v2, v3] 24 (0, 0)) := (b1.block _ (by simp <;> omega)).trans HW.out.2.1
  have k1 : w1.heap[w.heap.size + 1]? = some (.cells #[.slice none 0 0, .slice none 0 0, .slice none 0 0, .slice none 0 0] 24 (0, 0)) := (b1.block _ (by simp)).trans HW.out.2.2
  have c0 : w1.cell? ⟨w.heap.size, 0, none⟩ = some v0 := by rw [bk_cell k0]; rfl
  have z1 : w.heap.size + 2 ≤ w1.heap.size := by have := b1.size; simpa using this
  have H1 : Hid _ := And.intro (And.intro k0 k1) (HW.out.1.trans (b1.mono (by simp <;> omega)))
  clear k0 k1 b1 C
  go_wp2_with fail
  go_at_call 28
  refine (specDerive _ k.a lNext 16 _ (HR.out.1.1.below H1.out.2) HR.out.1.2.2.1 (by rw [HR.out.2.1]; decide) (by decide)).mono ?_
  rintro e w2 ⟨rs, rfl, os, b2⟩
  have H2 : Hid _ := And.intro (And.intro ((b2.block _ (by omega)).trans H1.out.1.1) ((b2.block _ (by omega)).trans H1.out.1.2)) (H1.out.2.trans (b2.mono H1.out.2.size))
  have z2 : w1.heap.size ≤ w2.heap.size := b2.size
  have HO : Hid _ := os
  clear b2 c0 os
  go_wp2_with fail
  go_at_call 27
  refine (keysOf_ok _ _ _ (row_of_owns HO.out) (derV_bytes _ _ _) (next_len k HR.out.2)).mono ?_
  rintro e w3 ⟨rk, rfl, ok, b3⟩
  obtain ⟨x0, x1, x2, x3, rfl, q⟩ := ok
  obtain ⟨a0, p0, rfl⟩ := (row_of_owns q.o0).form
  obtain ⟨a1, p1, rfl⟩ := (row_of_owns q.o1).form
  obtain ⟨a2, p2, rfl⟩ := (row_of_owns q.o2).form
  obtain ⟨a3, p3, rfl⟩ := (row_of_owns q.o3).form
  have j0 : w3.heap[w.heap.size]? = some (.cells #[v0, v1, v2, v3] 24 (0, 0)) := (b3.block _ (by omega)).trans H2.out.1.1
  have j1 : w3.heap[w.heap.size + 1]? = some (.cells #[.slice none 0 0, .slice none 0 0, .slice none 0 0, .slice none 0 0] 24 (0, 0)) := (b3.block _ (by omega)).trans H2.out.1.2
  have c3 : w3.cell? ⟨w.heap.size, 3, none⟩ = some v3 := by rw [bk_cell j0]; rfl
  have z3 : w2.heap.size ≤ w3.heap.size := b3.size
  have H3 : Hid _ := And.intro (And.intro j0 j1) (And.intro q (H2.out.2.trans (b3.mono H2.out.2.size)))
  clear j0 j1 q b3
  have lt3 : w.heap.size < w3.heap.size := by omega
  have c3' : ∀ o : Obj, (w3.alloc o).cell? ⟨w.heap.size, 3, none⟩ = some v3 := fun o => by rw [((Below.refl w3.heap.size w3).alloc (Nat.le_refl _) o).cell (p := ⟨w.heap.size, 3, none⟩) lt3]; exact c3
  go_wp2_with fail
  go_at_call 29
  have WG : Below w3.heap.size w3 (w3.alloc (.cells #[.slice a0 (derV k.a lNext 16).length p0, .slice a1 (derV (derV k.a lNext 16) lKey 16).length p1, .slice a2 (derV (derV k.a lNext 16) lIv 8).length p2, .slice a3 (derV (derV k.a lNext 16) lMask 16).length p3] 24)) := (Below.refl _ _).alloc (Nat.le_refl _) _
  refine (copyC _ k.d _ (HR.out.1.2.1.below (H3.out.2.2.trans (WG.mono H3.out.2.2.size))) (by rw [HR.out.2.2.2.2]; decide) (by rw [HR.out.2.2.2.2]; decide)).mono ?_
  rintro e w4 ⟨rc, rfl, oc, b4⟩
  obtain ⟨a4, p4, hr4⟩ := (row_of_owns oc).form
  subst hr4
  have L3 : (w3.alloc (.cells #[.slice a0 (derV k.a lNext 16).length p0, .slice a1 (derV (derV k.a lNext 16) lKey 16).length p1, .slice a2 (derV (derV k.a lNext 16) lIv 8).length p2, .slice a3 (derV (derV k.a lNext 16) lMask 16).length p3] 24)).heap.size = w3.heap.size + 1 := by simp
  rw [L3] at oc b4
  have b4' : Below w3.heap.size w3 w4 := WG.trans (b4.mono (Nat.le_succ _))
  have G4 : w4.heap[w3.heap.size]? = some (.cells #[.slice a0 (derV k.a lNext 16).length p0, .slice a1 (derV (derV k.a lNext 16) lKey 16).length p1, .slice a2 (derV (derV k.a lNext 16) lIv 8).length p2, .slice a3 (derV (derV k.a lNext 16) lMask 16).length p3] 24 (0, 0)) := (b4.block _ (Nat.lt_succ_self _)).trans (MapKept.heap_alloc w3 _).1
  have K4' : w4.heap[w.heap.size + 1]? = some (.cells #[.slice none 0 0, .slice none 0 0, .slice none 0 0, .slice none 0 0] 24 (0, 0)) := (b4'.block _ (by omega)).trans H3.out.1.2
  have gne : w3.heap.size ≠ w.heap.size + 1 := by omega
  have g0 : w4.cell? ⟨w3.heap.size, 0, none⟩ = some (.slice a0 (derV k.a lNext 16).length p0) := by rw [bk_cell G4]; rfl
  have g1 : w4.cell? ⟨w3.heap.size, 1, none⟩ = some (.slice a1 (derV (derV k.a lNext 16) lKey 16).length p1) := by rw [bk_cell G4]; rfl
  have g2 : w4.cell? ⟨w3.heap.size, 2, none⟩ = some (.slice a2 (derV (derV k.a lNext 16) lIv 8).length p2) := by rw [bk_cell G4]; rfl
  have g3 : w4.cell? ⟨w3.heap.size, 3, none⟩ = some (.slice a3 (derV (derV k.a lNext 16) lMask 16).length p3) := by rw [bk_cell G4]; rfl
  have gf : w4.frozen? ⟨w3.heap.size, 3, none⟩ = false := bk_free G4 3
  have y0 : w4.cell? ⟨w.heap.size + 1, 0, none⟩ = some (.slice none 0 0) := by rw [bk_cell K4']; rfl
  have f0 : w4.frozen? ⟨w.heap.size + 1, 0, none⟩ = false := bk_free K4' 0
  have y1 : w4.cell? ⟨w.heap.size + 1, 1, none⟩ = some (.slice none 0 0) := by rw [bk_cell K4']; rfl
  have f1 : w4.frozen? ⟨w.heap.size + 1, 1, none⟩ = false := bk_free K4' 1
  have y2 : w4.cell? ⟨w.heap.size + 1, 2, none⟩ = some (.slice none 0 0) := by rw [bk_cell K4']; rfl
  have f2 : w4.frozen? ⟨w.heap.size + 1, 2, none⟩ = false := bk_free K4' 2
  have y3 : w4.cell? ⟨w.heap.size + 1, 3, none⟩ = some (.slice none 0 0) := by rw [bk_cell K4']; rfl
  have f3 : w4.frozen? ⟨w.heap.size + 1, 3, none⟩ = false := bk_free K4' 3
  have H4 : Hid _ := And.intro (And.intro G4 K4') (And.intro oc b4')
  clear G4 K4' oc b4 b4' WG
  go_wp2
  try simp only [Exit.inBlock, Exit.then]
  refine bodyPost_ret (v := .agg #[.slice a0 (derV k.a lNext 16).length p0, .slice a1 (derV (derV k.a lNext 16) lKey 16).length p1, .slice a2 (derV (derV k.a lNext 16) lIv 8).length p2, .slice a4 k.d.length p4]) ?_ rfl ?_
  · refine results_cell_row (t := 24) rfl _ _ (w.heap.size + 1) _ (fr := (0, 0)) _ rfl ?_ Try.underlying24 rfl infoKeys4
    rw [bk_set (bk_set (bk_set (bk_set ((bk_other (g := w3.heap.size) (by omega) 3 _).trans H4.out.1.2) 0 _) 1 _) 2 _) 3 _]
    rfl
  · have q := H3.out.2.1
    have old : ∀ {n : Nat} {v : Value} {xs : List Value}, w3.ownsRow w2.heap.size 5 1 v n xs → (w4.setCell ⟨w3.heap.size, 3, none⟩ (.slice a4 k.d.length p4)).ownsRow w2.heap.size 5 1 v n xs :=
      fun h => (Only.setCell (w := w4) ⟨w3.heap.size, 3, none⟩ (.slice a4 k.d.length p4)).owns (owns_below h H4.out.2.2) (fun j hj e => by have := (h.lt j hj).2; have := Option.some.inj e; simp only at this; omega)
    have new := owns_cell3 (i := 3) (u := (.slice a4 k.d.length p4)) H4.out.2.1 (g := w3.heap.size) (by omega)
    have fin : ∀ {B n : Nat} {v : Value} {xs : List Value}, w2.heap.size ≤ B → (w4.setCell ⟨w3.heap.size, 3, none⟩ (.slice a4 k.d.length p4)).ownsRow B 5 1 v n xs → _ := fun hB h => owns_mono (owns_cell3 (i := 3) (u := (.slice a4 k.d.length p4)) (owns_cell3 (i := 2) (u := (.slice a2 (derV (derV k.a lNext 16) lIv 8).length p2)) (owns_cell3 (i := 1) (u := (.slice a1 (derV (derV k.a lNext 16) lKey 16).length p1)) (owns_cell3 (i := 0) (u := (.slice a0 (derV k.a lNext 16).length p0)) h (g := w.heap.size + 1) (by omega)) (g := w.heap.size + 1) (by omega)) (g := w.heap.size + 1) (by omega)) (g := w.heap.size + 1) (by omega)) (base' := w.heap.size) (by omega)
    refine ⟨_, rfl, ⟨_, _, _, _, rfl, fin (Nat.le_refl _) (old q.o0), fin (Nat.le_refl _) (old q.o1), fin (Nat.le_refl _) (old q.o2), fin (by omega) new, q.a01, q.a02, ?_, q.a12, ?_, ?_⟩, ?_⟩
    · exact apart_later q.o0 H4.out.2.1 (by omega)
    · exact apart_later q.o1 H4.out.2.1 (by omega)
    · exact apart_later q.o2 H4.out.2.1 (by omega)
    · have B4 : Below w.heap.size w w4 := H3.out.2.2.trans (H4.out.2.2.mono H3.out.2.2.size)
      exact ((((B4.setCell (by show w.heap.size ≤ w3.heap.size; omega) _).setCell (by simp) _).setCell (by simp) _).setCell (by simp) _).setCell (by simp) _

theorem specNextKeys (v : Value) (k : K4) (w : World) (h : KRow w v k) (hB : k.bytes) [Decidable (kok k)] :
    Calls Try.prog 12 #[v] w fun e w' => ∃ r, e = .returned r ∧ KOwns w' w.heap.size r (if kok k then nxtK k else kZero) ∧ Below w.heap.size w w' := by
  by_cases hk : kok k
  · rw [if_pos hk]; exact nextKeys_ok v k w h hB hk
  · rw [if_neg hk]; exact nextKeys_bad v k w h hk
end Go.Proofs.Ytoebogcglcaikaa
