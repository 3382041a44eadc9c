import Derived.Test.YtkjfpgdnhdnceagDoorSpecPut
import Derived.Test.YtkjfpgdnhdnceagDoorEqBytes
import Derived.Test.YtkjfpgdnhdnceagDoorMarkBytes
namespace Go.Proofs.YtkjfpgdnhdnceagDoor
open Go.RowKit
set_option linter.unusedVariables false

set_option maxHeartbeats 800000 in
theorem putVarLaw (v cd : Int) (n : Nat) (xs : List Int) (w : World) (ht : Tab w) (hn : n ≤ 8)
    (hS : ∀ w : World, Calls Tryd.prog 7 #[.int .i64 v] w fun e w' => ∃ r, e = .returned (.tuple #[r, .int .i64 cd]) ∧ w'.ownsRow w.heap.size 5 1 r n (xs.map (Value.int .u8)) ∧ Below w.heap.size w w')
    (hI : ∀ w : World, Tab w → Calls Tryd.prog 8 #[.int .i64 v] w fun e w' => ∃ r, e = .returned (.tuple #[r, .int .i64 cd]) ∧ w'.ownsRow w.heap.size 5 1 r n (xs.map (Value.int .u8)) ∧ Below w.heap.size w w') :
    Calls Tryd.prog 4 #[.int .i64 v] w fun e w' => e = .returned (.bool true) ∧ Below w.heap.size w w' := by
  go_enter Tryd.func4, Tryd.ntmps4
  go_wp2_with fail
  go_at_call 7
  refine (hS _).mono ?_
  rintro e w1 ⟨rS, rfl, oS, b1⟩
  have hlen : xs.length = n := by simpa using oS.1
  have t1 := ht.below b1 ht.lt
  go_wp2_with fail
  go_at_call 8
  refine (hI _ t1).mono ?_
  rintro e w2 ⟨rI, rfl, oI, b2⟩
  go_wp2_with fail
  go_at_call 9
  refine (eqBytes_same _ _ xs _ (row_of_owns oI) ((row_of_owns oS).below b2) (by omega)).mono ?_
  rintro e w3 ⟨rfl, m3, rfl⟩
  go_wp2_with fail
  go_at_call 10
  refine (markBytes 1 n w1.heap.size _ xs _ (by omega) (by decide) (by decide) (owns_drewN oI m3)).mono ?_
  rintro e w4 ⟨rfl, oM, b4, z4⟩
  have b4' : Below w1.heap.size w1 w4 := b2.trans (below_drewN (Below.refl _ _) m3 |>.trans b4)
  go_wp2_with fail
  go_at_call 11
  refine (heldBytes 1 n _ _ (row_of_owns oM) (by omega) (by decide) (by decide)).mono ?_
  rintro e w5 ⟨rfl, rfl⟩
  have t5 := t1.below b4' t1.lt
  go_wp2_with fail
  go_at_call 8
  refine (hI _ t5).mono ?_
  rintro e w6 ⟨rH, rfl, oH, b6⟩
  have b6' : Below w1.heap.size w1 w6 := b4'.trans (b6.mono b4'.size)
  go_wp2_with fail
  go_at_call 9
  refine (eqBytes_same _ _ xs _ (row_of_owns oH) ((row_of_owns oS).below b6') (by omega)).mono ?_
  rintro e w7 ⟨rfl, m7, rfl⟩
  go_wp2_with fail
  go_at_call 11
  refine (heldBytes 1 n _ _ (((row_of_owns oM).below b6).drewN m7) (by omega) (by decide) (by decide)).mono ?_
  rintro e w8 ⟨rfl, rfl⟩
  go_wp2
  go_ret
  exact ⟨rfl, below_drewN (b1.trans (b6'.mono b1.size)) m7⟩

theorem fnExactPutVar_walk (v : Int) (_ : (Lit.int .i64 v).wf = true) (w : World) (ht : Tab w) :
    Calls Tryd.prog 4 #[.int .i64 v] w fun e w' => e = .returned (.bool true) ∧ Below w.heap.size w w' := by
  by_cases h : v < 0 ∨ 4611686018427387903 < v
  · refine putVarLaw v 1 0 [] w ht (by decide) (fun w => specPutVar_no v w h) (fun w ht => ?_)
    refine (implPutVar_no v w ht h).mono ?_
    rintro e w' ⟨rfl, rfl⟩
    exact ⟨_, rfl, World.ownsRow_nil _ _ _ _, Below.refl _ _⟩
  · have hv : (vsize v).toNat ≤ 8 := by
      unfold vsize
      split <;> (try split) <;> (try split) <;> (try split) <;> (try split) <;> omega
    exact putVarLaw v 0 _ (putv v) w ht hv (fun w => specPutVar v w (by omega) (by omega)) (fun w ht => implPutVar v w ht (by omega) (by omega))
end Go.Proofs.YtkjfpgdnhdnceagDoor
