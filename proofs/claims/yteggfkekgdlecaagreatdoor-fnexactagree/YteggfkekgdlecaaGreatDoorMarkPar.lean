import Derived.Test.YteggfkekgdlecaaGreatDoorParP
import Derived.Test.YteggfkekgdlecaaGreatDoorMarkBytes
import Derived.Test.YteggfkekgdlecaaGreatDoorMarkKeys
namespace Go.Proofs.YteggfkekgdlecaaGreatDoor
open Go.RowKit
set_option linter.unusedVariables false

set_option maxRecDepth 20000 in
set_option maxHeartbeats 1000000 in
theorem markPar (q : Int) (base : Nat) (v : Value) (h : PP) (w : World) (hs : h.small 1048576) (hq0 : 0 ≤ q) (hq1 : q ≤ 140737400000000) (ho : PPOwns w base v h) :
    Calls Tryz.prog 40 #[v, .int .i64 q] w fun e w' => e = .returned (.int .i64 (q + (h.o.length : Int) + (h.t.length : Int) + (h.f.length : Int))) ∧ PPOwns w' base v (h.marked q) ∧ Chg (PPBlk v) w w' := by
  obtain ⟨xa0, xa1, xa2, xa3, xa4, xa5, xa6, xa7, xa8, xm, xd, xs, xt⟩ := h
  obtain ⟨v0, v1, v2, rfl, q0⟩ := ho
  obtain ⟨s0, s1, s2⟩ := hs
  dsimp only at q0 s0 s1 s2 ⊢
  have O0 := q0.o0
  have O1 := q0.o1
  have O2 := q0.o2
  dsimp only at O0 O1 O2
  obtain ⟨n0, e0⟩ : ∃ n, n = xd.length := ⟨_, rfl⟩
  obtain ⟨n1, e1⟩ : ∃ n, n = xs.length := ⟨_, rfl⟩
  obtain ⟨n2, e2⟩ : ∃ n, n = xt.length := ⟨_, rfl⟩
  have EK : Hid ((PP.mk xa0 xa1 xa2 xa3 xa4 xa5 xa6 xa7 xa8 xm xd xs xt).marked q = ⟨xa0, xa1, xa2, xa3, xa4, xa5, xa6, xa7, xa8, xm, marks q n0, marks (q + (n0 : Int)) n1, marks (q + (n0 : Int) + (n1 : Int)) n2⟩) := by rw [e0, e1, e2]; rfl
  have HQ : Hid _ := And.intro O0 (And.intro O1 (And.intro O2 (And.intro q0.a01 (And.intro q0.a02 q0.a12))))
  have EN : Hid _ := And.intro e0 (And.intro e1 e2)
  rw [← e0] at s0 ⊢
  rw [← e1] at s1 ⊢
  rw [← e2] at s2 ⊢
  clear e0 e1 e2 q0 O0 O1 O2
  have B0 : (w.alloc (.cells #[.int .i64 xa0, .int .i64 xa1, .int .i64 xa2, .int .i64 xa3, .int .i64 xa4, .int .i64 xa5, .int .i64 xa6, .int .i64 xa7, .int .i64 xa8, .bool xm, v0, v1, v2] 35)).heap[w.heap.size]? = some (.cells #[.int .i64 xa0, .int .i64 xa1, .int .i64 xa2, .int .i64 xa3, .int .i64 xa4, .int .i64 xa5, .int .i64 xa6, .int .i64 xa7, .int .i64 xa8, .bool xm, v0, v1, v2] 35 (0, 0)) := (MapKept.heap_alloc w _).1
  have HB0 : Hid _ := B0
  have WB : Hid (Below w.heap.size w (w.alloc (.cells #[.int .i64 xa0, .int .i64 xa1, .int .i64 xa2, .int .i64 xa3, .int .i64 xa4, .int .i64 xa5, .int .i64 xa6, .int .i64 xa7, .int .i64 xa8, .bool xm, v0, v1, v2] 35))) := (Below.refl _ _).alloc (Nat.le_refl _) _
  clear B0
  go_enter Tryz.func40, Tryz.ntmps40
  go_wp2_with fail
  go_at_call 12
  refine (markBytes q n0 base _ xd _ (by omega) hq0 (by omega) (by have := owns_below HQ.out.1 WB.out; rw [← EN.out.1] at this; exact this)).mono ?_
  rintro e w1 ⟨rfl, o1, b1, z1, n1'⟩
  have B1 := n1'.mark HB0.out (fun e => by have := (HQ.out.1.lt _ e).2; omega)
  have c1 : w1.cell? ⟨w.heap.size, 11, none⟩ = some v1 := by rw [kblk_cell B1]; rfl
  have H1 : Hid _ := And.intro B1 (And.intro o1 n1')
  clear B1 o1 n1' b1 z1
  go_wp2_with fail
  go_at_call 12
  refine (markBytes (q + (n0 : Int)) n1 base _ xs _ (by omega) (by omega) (by omega) (by have := H1.out.2.2.owns (owns_below HQ.out.2.1 WB.out) (fun g hg e => HQ.out.2.2.2.1 g e.symm hg); rw [← EN.out.2.1] at this; exact this)).mono ?_
  rintro e w2 ⟨rfl, o2, b2, z2, n2'⟩
  have B2 := n2'.mark H1.out.1 (fun e => by have := (HQ.out.2.1.lt _ e).2; omega)
  have c2 : w2.cell? ⟨w.heap.size, 12, none⟩ = some v2 := by rw [kblk_cell B2]; rfl
  have H2 : Hid _ := And.intro B2 (And.intro o2 n2')
  clear B2 o2 n2' b2 z2
  go_wp2_with fail
  go_at_call 12
  refine (markBytes (q + (n0 : Int) + (n1 : Int)) n2 base _ xt _ (by omega) (by omega) (by omega) (by have := H2.out.2.2.owns (H1.out.2.2.owns (owns_below HQ.out.2.2.1 WB.out) (fun g hg e => HQ.out.2.2.2.2.1 g e.symm hg)) (fun g hg e => HQ.out.2.2.2.2.2 g e.symm hg); rw [← EN.out.2.2] at this; exact this)).mono ?_
  rintro e w3 ⟨rfl, o3, b3, z3, n3'⟩
  have H3 : Hid _ := And.intro o3 n3'
  clear o3 n3' b3 z3
  go_wp2
  go_ret
  refine ⟨rfl, ?_, ?_⟩
  · rw [EK.out]
    have x0 := H3.out.2.owns (H2.out.2.2.owns H1.out.2.1 (fun g hg e => HQ.out.2.2.2.1 g hg e.symm)) (fun g hg e => HQ.out.2.2.2.2.1 g hg e.symm)
    have x1 := H3.out.2.owns H2.out.2.1 (fun g hg e => HQ.out.2.2.2.2.2 g hg e.symm)
    exact ⟨v0, v1, v2, rfl, by rw [marks_length]; exact x0, by rw [marks_length]; exact x1, by rw [marks_length]; exact H3.out.1, HQ.out.2.2.2.1, HQ.out.2.2.2.2.1, HQ.out.2.2.2.2.2⟩
  · refine (Chg.of_below WB.out).trans ((Chg.of_only H1.out.2.2 ?_).trans ((Chg.of_only H2.out.2.2 ?_).trans (Chg.of_only H3.out.2 ?_)))
    · exact fun g e => ⟨_, _, _, _, rfl, rfl, rfl, rfl, Or.inl e⟩
    · exact fun g e => ⟨_, _, _, _, rfl, rfl, rfl, rfl, Or.inr (Or.inl e)⟩
    · exact fun g e => ⟨_, _, _, _, rfl, rfl, rfl, rfl, Or.inr (Or.inr e)⟩
end Go.Proofs.YteggfkekgdlecaaGreatDoor
