import Derived.Test.YtbbiinbjgognjaaDoorHead8
import Derived.Test.YtbbiinbjgognjaaDoorEqBytes
namespace Go.Proofs.YtbbiinbjgognjaaDoor
open Go.RowKit
set_option linter.unusedVariables false

set_option maxRecDepth 20000 in
set_option maxHeartbeats 1000000 in
theorem eqHead_same (va vb : Value) (h : H8) (w : World) (ha : HRow w va h) (hb : HRow w vb h) (hs : h.small 140737488355328) :
    Calls Tryd.prog 10 #[va, vb] w fun e w' => e = .returned (.bool true) ∧ Below w.heap.size w w' := by
  obtain ⟨f, v, d, s, t, n, l, p⟩ := h
  obtain ⟨u0, u1, u2, rfl, p0, p1, p2⟩ := ha
  obtain ⟨v0, v1, v2, rfl, q0, q1, q2⟩ := hb
  have WB : ∀ (o1 o2 : Obj) (n : Nat), Below w.heap.size w (((w.alloc o1).alloc o2).drewN n) := fun o1 o2 n => below_drewN (((Below.refl _ _).alloc (Nat.le_refl _) o1).alloc (by simp) o2) n
  have WB0 : ∀ (o1 o2 : Obj), Below w.heap.size w ((w.alloc o1).alloc o2) := fun o1 o2 => ((Below.refl _ _).alloc (Nat.le_refl _) o1).alloc (by simp) o2
  have HH : Hid _ := And.intro (And.intro p0 (And.intro p1 p2)) (And.intro (And.intro q0 (And.intro q1 q2)) (And.intro hs (And.intro WB WB0)))
  clear p0 p1 p2 q0 q1 q2 hs WB WB0
  dsimp only at HH ⊢
  have ef : (f != f) = false := by simp
  have ev : (v != v) = false := by simp
  have en : (n != n) = false := by simp
  have el : (l != l) = false := by simp
  have ep : (p != p) = false := by simp
  go_enter Tryd.func10, Tryd.ntmps10
  go_wp2_with fail
  go_at_call 11
  refine (eqBytes_same _ _ d _ (HH.out.1.1.below (HH.out.2.2.2.2 _ _)) (HH.out.2.1.1.below (HH.out.2.2.2.2 _ _)) HH.out.2.2.1.1).mono ?_
  rintro e w0 ⟨rfl, m0, rfl⟩
  go_wp2_with fail
  go_at_call 11
  refine (eqBytes_same _ _ s _ (HH.out.1.2.1.below (HH.out.2.2.2.1 _ _ _)) (HH.out.2.1.2.1.below (HH.out.2.2.2.1 _ _ _)) HH.out.2.2.1.2.1).mono ?_
  rintro e w1 ⟨rfl, m1, rfl⟩
  go_wp2_with fail
  go_at_call 11
  refine (eqBytes_same _ _ t _ (HH.out.1.2.2.below (HH.out.2.2.2.1 _ _ _)) (HH.out.2.1.2.2.below (HH.out.2.2.2.1 _ _ _)) HH.out.2.2.1.2.2).mono ?_
  rintro e w2 ⟨rfl, m2, rfl⟩
  go_wp2
  go_ret
  exact ⟨rfl, HH.out.2.2.2.1 _ _ _⟩
end Go.Proofs.YtbbiinbjgognjaaDoor
