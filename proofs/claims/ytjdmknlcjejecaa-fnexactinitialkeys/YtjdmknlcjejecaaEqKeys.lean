import Derived.Test.YtjdmknlcjejecaaKeys
import Derived.Test.YtjdmknlcjejecaaEqBytes
namespace Go.Proofs.Ytjdmknlcjejecaa
open Go.RowKit
set_option linter.unusedVariables false

set_option maxHeartbeats 400000 in
theorem eqKeys_same (va vb : Value) (k : K4) (w : World) (ha : KRow w va k) (hb : KRow w vb k) (hs : k.small 140737488355328) :
    Calls Try.prog 7 #[va, vb] w fun e w' => e = .returned (.bool true) ∧ Below w.heap.size w w' := by
  obtain ⟨u0, u1, u2, u3, rfl, p0, p1, p2, p3⟩ := ha
  obtain ⟨v0, v1, v2, v3, rfl, q0, q1, q2, q3⟩ := hb
  have WB : ∀ (o1 o2 : Obj) (n : Nat), Below w.heap.size w (((w.alloc o1).alloc o2).drewN n) := fun o1 o2 n => below_drewN (((Below.refl _ _).alloc (Nat.le_refl _) o1).alloc (by simp) o2) n
  have WB0 : ∀ (o1 o2 : Obj), Below w.heap.size w ((w.alloc o1).alloc o2) := fun o1 o2 => ((Below.refl _ _).alloc (Nat.le_refl _) o1).alloc (by simp) o2
  have HH : Hid _ := And.intro (And.intro p0 (And.intro p1 (And.intro p2 p3))) (And.intro (And.intro q0 (And.intro q1 (And.intro q2 q3))) (And.intro hs (And.intro WB WB0)))
  clear p0 p1 p2 p3 q0 q1 q2 q3 hs WB WB0
  go_enter Try.func7, Try.ntmps7
  go_wp2_with fail
  go_at_call 8
  refine (eqBytes_same _ _ k.a _ (HH.out.1.1.below (HH.out.2.2.2.2 _ _)) (HH.out.2.1.1.below (HH.out.2.2.2.2 _ _)) HH.out.2.2.1.1).mono ?_
  rintro e w0 ⟨rfl, m0, rfl⟩
  go_wp2_with fail
  go_at_call 8
  refine (eqBytes_same _ _ k.b _ (HH.out.1.2.1.below (HH.out.2.2.2.1 _ _ _)) (HH.out.2.1.2.1.below (HH.out.2.2.2.1 _ _ _)) HH.out.2.2.1.2.1).mono ?_
  rintro e w1 ⟨rfl, m1, rfl⟩
  go_wp2_with fail
  go_at_call 8
  refine (eqBytes_same _ _ k.c _ (HH.out.1.2.2.1.below (HH.out.2.2.2.1 _ _ _)) (HH.out.2.1.2.2.1.below (HH.out.2.2.2.1 _ _ _)) HH.out.2.2.1.2.2.1).mono ?_
  rintro e w2 ⟨rfl, m2, rfl⟩
  go_wp2_with fail
  go_at_call 8
  refine (eqBytes_same _ _ k.d _ (HH.out.1.2.2.2.below (HH.out.2.2.2.1 _ _ _)) (HH.out.2.1.2.2.2.below (HH.out.2.2.2.1 _ _ _)) HH.out.2.2.1.2.2.2).mono ?_
  rintro e w3 ⟨rfl, m3, rfl⟩
  go_wp2
  go_ret
  exact ⟨rfl, HH.out.2.2.2.1 _ _ _⟩
end Go.Proofs.Ytjdmknlcjejecaa
