import Derived.Test.YteggfkekgdlecaaGreatDoorParP
import Derived.Test.YteggfkekgdlecaaGreatDoorEqBytes
namespace Go.Proofs.YteggfkekgdlecaaGreatDoor
open Go.RowKit
set_option linter.unusedVariables false

set_option maxRecDepth 20000 in
set_option maxHeartbeats 1000000 in
theorem eqPar_same (va vb : Value) (h : PP) (w : World) (ha : PPRow w va h) (hb : PPRow w vb h) (hs : h.small 140737488355328) :
    Calls Tryz.prog 37 #[va, vb] w fun e w' => e = .returned (.bool true) ∧ Below w.heap.size w w' := by
  obtain ⟨a0, a1, a2, a3, a4, a5, a6, a7, a8, m, o, t, f⟩ := h
  obtain ⟨u0, u1, u2, rfl, p0, p1, p2⟩ := ha
  obtain ⟨v0, v1, v2, rfl, q0, q1, q2⟩ := hb
  have WB : ∀ (o1 o2 : Obj) (n : Nat), Below w.heap.size w (((w.alloc o1).alloc o2).drewN n) := fun o1 o2 n => below_drewN (((Below.refl _ _).alloc (Nat.le_refl _) o1).alloc (by simp) o2) n
  have WB0 : ∀ (o1 o2 : Obj), Below w.heap.size w ((w.alloc o1).alloc o2) := fun o1 o2 => ((Below.refl _ _).alloc (Nat.le_refl _) o1).alloc (by simp) o2
  have HH : Hid _ := And.intro (And.intro p0 (And.intro p1 p2)) (And.intro (And.intro q0 (And.intro q1 q2)) (And.intro hs (And.intro WB WB0)))
  clear p0 p1 p2 q0 q1 q2 hs WB WB0
  dsimp only at HH ⊢
  have ea0 : (a0 != a0) = false := by simp
  have ea1 : (a1 != a1) = false := by simp
  have ea2 : (a2 != a2) = false := by simp
  have ea3 : (a3 != a3) = false := by simp
  have ea4 : (a4 != a4) = false := by simp
  have ea5 : (a5 != a5) = false := by simp
  have ea6 : (a6 != a6) = false := by simp
  have ea7 : (a7 != a7) = false := by simp
  have ea8 : (a8 != a8) = false := by simp
  have em : (m != m) = false := by simp
  go_enter Tryz.func37, Tryz.ntmps37
  go_wp2_with fail
  go_at_call 10
  refine (eqBytes_same _ _ o _ (HH.out.1.1.below (HH.out.2.2.2.2 _ _)) (HH.out.2.1.1.below (HH.out.2.2.2.2 _ _)) HH.out.2.2.1.1).mono ?_
  rintro e w0 ⟨rfl, m0, rfl⟩
  go_wp2_with fail
  go_at_call 10
  refine (eqBytes_same _ _ t _ (HH.out.1.2.1.below (HH.out.2.2.2.1 _ _ _)) (HH.out.2.1.2.1.below (HH.out.2.2.2.1 _ _ _)) HH.out.2.2.1.2.1).mono ?_
  rintro e w1 ⟨rfl, m1, rfl⟩
  go_wp2_with fail
  go_at_call 10
  refine (eqBytes_same _ _ f _ (HH.out.1.2.2.below (HH.out.2.2.2.1 _ _ _)) (HH.out.2.1.2.2.below (HH.out.2.2.2.1 _ _ _)) HH.out.2.2.1.2.2).mono ?_
  rintro e w2 ⟨rfl, m2, rfl⟩
  go_wp2
  go_ret
  exact ⟨rfl, HH.out.2.2.2.1 _ _ _⟩
end Go.Proofs.YteggfkekgdlecaaGreatDoor
