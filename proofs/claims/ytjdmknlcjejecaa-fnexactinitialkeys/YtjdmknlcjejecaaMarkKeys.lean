import Derived.Test.YtjdmknlcjejecaaKeys
import Derived.Test.YtjdmknlcjejecaaMarkBytes
namespace Go.Proofs.Ytjdmknlcjejecaa
open Go.RowKit
set_option linter.unusedVariables false

theorem kblk_cell {w : World} {g : Nat} {c : Array Value} {t : TypeId} {fr : Nat × Nat} (h : w.heap[g]? = some (.cells c t fr)) (o : Nat) : w.cell? ⟨g, o, none⟩ = c[o]? := by
  simp [World.cell?, h]
theorem Only.mark {g : Option Nat} {w w' : World} {b : Nat} {o : Obj} (h : Only g w w') (hb : w.heap[b]? = some o) (hne : g ≠ some b) : w'.heap[b]? = some o := (h.block b (fun e => hne e.symm)).trans hb

set_option maxHeartbeats 1000000 in
theorem markKeys (q : Int) (base : Nat) (v : Value) (k : K4) (w : World) (hs : k.small 1048576) (hq0 : 0 ≤ q) (hq1 : q ≤ 140737400000000) (ho : KOwns w base v k) :
    Calls Try.prog 10 #[v, .int .i64 q] w fun e w' => e = .returned (.int .i64 (q + (k.a.length : Int) + (k.b.length : Int) + (k.c.length : Int) + (k.d.length : Int))) ∧ KOwns w' base v (k.marked q) ∧ Chg (KBlk v) w w' := by
  obtain ⟨v0, v1, v2, v3, rfl, q0⟩ := ho
  obtain ⟨s0, s1, s2, s3⟩ := hs
  obtain ⟨n0, e0⟩ : ∃ n, n = k.a.length := ⟨_, rfl⟩
  obtain ⟨n1, e1⟩ : ∃ n, n = k.b.length := ⟨_, rfl⟩
  obtain ⟨n2, e2⟩ : ∃ n, n = k.c.length := ⟨_, rfl⟩
  obtain ⟨n3, e3⟩ : ∃ n, n = k.d.length := ⟨_, rfl⟩
  have EK : Hid (k.marked q = ⟨marks q n0, marks (q + (n0 : Int)) n1, marks (q + (n0 : Int) + (n1 : Int)) n2, marks (q + (n0 : Int) + (n1 : Int) + (n2 : Int)) n3⟩) := by rw [e0, e1, e2, e3]; rfl
  have HQ : Hid _ := q0
  have EN : Hid _ := And.intro e0 (And.intro e1 (And.intro e2 e3))
  rw [← e0] at s0 ⊢
  rw [← e1] at s1 ⊢
  rw [← e2] at s2 ⊢
  rw [← e3] at s3 ⊢
  clear e0 e1 e2 e3 q0
  have B0 : (w.alloc (.cells #[v0, v1, v2, v3] 24)).heap[w.heap.size]? = some (.cells #[v0, v1, v2, v3] 24 (0, 0)) := (MapKept.heap_alloc w _).1
  have HB0 : Hid _ := B0
  have WB : Hid (Below w.heap.size w (w.alloc (.cells #[v0, v1, v2, v3] 24))) := (Below.refl _ _).alloc (Nat.le_refl _) _
  clear B0
  go_enter Try.func10, Try.ntmps10
  go_wp2_with fail
  go_at_call 9
  refine (markBytes q n0 base _ k.a _ (by omega) hq0 (by omega) (by have := owns_below HQ.out.o0 WB.out; rw [← EN.out.1] at this; exact this)).mono ?_
  rintro e w1 ⟨rfl, o1, b1, z1, n1'⟩
  have B1 := n1'.mark HB0.out (fun e => by have := (HQ.out.o0.lt _ e).2; omega)
  have c1 : w1.cell? ⟨w.heap.size, 1, none⟩ = some v1 := by rw [kblk_cell B1]; rfl
  have H1 : Hid _ := And.intro B1 (And.intro o1 n1')
  clear B1 o1 n1' b1 z1
  go_wp2_with fail
  go_at_call 9
  refine (markBytes (q + (n0 : Int)) n1 base _ k.b _ (by omega) (by omega) (by omega) (by have := H1.out.2.2.owns (owns_below HQ.out.o1 WB.out) (fun g hg e => HQ.out.a01 g e.symm hg); rw [← EN.out.2.1] at this; exact this)).mono ?_
  rintro e w2 ⟨rfl, o2, b2, z2, n2'⟩
  have B2 := n2'.mark H1.out.1 (fun e => by have := (HQ.out.o1.lt _ e).2; omega)
  have c2 : w2.cell? ⟨w.heap.size, 2, none⟩ = some v2 := by rw [kblk_cell B2]; rfl
  have H2 : Hid _ := And.intro B2 (And.intro o2 n2')
  clear B2 o2 n2' b2 z2
  go_wp2_with fail
  go_at_call 9
  refine (markBytes (q + (n0 : Int) + (n1 : Int)) n2 base _ k.c _ (by omega) (by omega) (by omega) (by have := H2.out.2.2.owns (H1.out.2.2.owns (owns_below HQ.out.o2 WB.out) (fun g hg e => HQ.out.a02 g e.symm hg)) (fun g hg e => HQ.out.a12 g e.symm hg); rw [← EN.out.2.2.1] at this; exact this)).mono ?_
  rintro e w3 ⟨rfl, o3, b3, z3, n3'⟩
  have B3 := n3'.mark H2.out.1 (fun e => by have := (HQ.out.o2.lt _ e).2; omega)
  have c3 : w3.cell? ⟨w.heap.size, 3, none⟩ = some v3 := by rw [kblk_cell B3]; rfl
  have H3 : Hid _ := And.intro B3 (And.intro o3 n3')
  clear B3 o3 n3' b3 z3
  go_wp2_with fail
  go_at_call 9
  refine (markBytes (q + (n0 : Int) + (n1 : Int) + (n2 : Int)) n3 base _ k.d _ (by omega) (by omega) (by omega) (by have := H3.out.2.2.owns (H2.out.2.2.owns (H1.out.2.2.owns (owns_below HQ.out.o3 WB.out) (fun g hg e => HQ.out.a03 g e.symm hg)) (fun g hg e => HQ.out.a13 g e.symm hg)) (fun g hg e => HQ.out.a23 g e.symm hg); rw [← EN.out.2.2.2] at this; exact this)).mono ?_
  rintro e w4 ⟨rfl, o4, b4, z4, n4'⟩
  have H4 : Hid _ := And.intro o4 n4'
  clear o4 n4' b4 z4
  go_wp2
  go_ret
  refine ⟨rfl, ⟨v0, v1, v2, v3, rfl, ?_⟩, ?_⟩
  · rw [EK.out]
    have x0 := H4.out.2.owns (H3.out.2.2.owns (H2.out.2.2.owns H1.out.2.1 (fun g hg e => HQ.out.a01 g hg e.symm)) (fun g hg e => HQ.out.a02 g hg e.symm)) (fun g hg e => HQ.out.a03 g hg e.symm)
    have x1 := H4.out.2.owns (H3.out.2.2.owns H2.out.2.1 (fun g hg e => HQ.out.a12 g hg e.symm)) (fun g hg e => HQ.out.a13 g hg e.symm)
    have x2 := H4.out.2.owns H3.out.2.1 (fun g hg e => HQ.out.a23 g hg e.symm)
    exact ⟨by rw [marks_length]; exact x0, by rw [marks_length]; exact x1, by rw [marks_length]; exact x2, by rw [marks_length]; exact H4.out.1, HQ.out.a01, HQ.out.a02, HQ.out.a03, HQ.out.a12, HQ.out.a13, HQ.out.a23⟩
  · refine (Chg.of_below WB.out).trans ((Chg.of_only H1.out.2.2 ?_).trans ((Chg.of_only H2.out.2.2 ?_).trans ((Chg.of_only H3.out.2.2 ?_).trans (Chg.of_only H4.out.2 ?_))))
    · exact fun g e => ⟨v0, v1, v2, v3, rfl, Or.inl e⟩
    · exact fun g e => ⟨v0, v1, v2, v3, rfl, Or.inr (Or.inl e)⟩
    · exact fun g e => ⟨v0, v1, v2, v3, rfl, Or.inr (Or.inr (Or.inl e))⟩
    · exact fun g e => ⟨v0, v1, v2, v3, rfl, Or.inr (Or.inr (Or.inr e))⟩

set_option maxHeartbeats 1000000 in
theorem heldKeys (q : Int) (v : Value) (k : K4) (w : World) (hs : k.small 1048576) (hq0 : 0 ≤ q) (hq1 : q ≤ 140737400000000) (ho : KRow w v (k.marked q)) :
    Calls Try.prog 11 #[v, .int .i64 q] w fun e w' => e = .returned (.int .i64 (q + (k.a.length : Int) + (k.b.length : Int) + (k.c.length : Int) + (k.d.length : Int))) ∧ Below w.heap.size w w' := by
  obtain ⟨v0, v1, v2, v3, rfl, r0, r1, r2, r3⟩ := ho
  obtain ⟨s0, s1, s2, s3⟩ := hs
  unfold K4.marked at r0 r1 r2 r3
  generalize k.a.length = n0 at *
  generalize k.b.length = n1 at *
  generalize k.c.length = n2 at *
  generalize k.d.length = n3 at *
  have WB : Below w.heap.size w (w.alloc (.cells #[v0, v1, v2, v3] 24)) := (Below.refl _ _).alloc (Nat.le_refl _) _
  have h0 := heldBytes q n0 v0 _ (r0.below WB) (by omega) hq0 (by omega)
  have h1 := heldBytes (q + (n0 : Int)) n1 v1 _ (r1.below WB) (by omega) (by omega) (by omega)
  have h2 := heldBytes (q + (n0 : Int) + (n1 : Int)) n2 v2 _ (r2.below WB) (by omega) (by omega) (by omega)
  have h3 := heldBytes (q + (n0 : Int) + (n1 : Int) + (n2 : Int)) n3 v3 _ (r3.below WB) (by omega) (by omega) (by omega)
  have HW : Hid _ := WB
  clear r0 r1 r2 r3 WB
  go_enter Try.func11, Try.ntmps11
  go_wp2_with fail
  go_at_call 23
  refine h0.mono ?_
  rintro e w1 ⟨rfl, rfl⟩
  go_wp2_with fail
  go_at_call 23
  refine h1.mono ?_
  rintro e w1 ⟨rfl, rfl⟩
  go_wp2_with fail
  go_at_call 23
  refine h2.mono ?_
  rintro e w1 ⟨rfl, rfl⟩
  go_wp2_with fail
  go_at_call 23
  refine h3.mono ?_
  rintro e w1 ⟨rfl, rfl⟩
  go_wp2
  go_ret
  exact ⟨rfl, HW.out⟩
end Go.Proofs.Ytjdmknlcjejecaa
