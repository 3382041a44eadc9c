import Derived.Test.YtkjfpgdnhdnceahFixed
namespace Go.Proofs.Ytkjfpgdnhdnceah
open Go.RowKit
set_option linter.unusedVariables false

set_option maxHeartbeats 800000 in
theorem putFixedLaw (v k cd : Int) (n : Nat) (xs : List Int) (w : World) (hn : n ≤ 8)
    (hS : ∀ w : World, Calls Try.prog 5 #[.int .i64 v, .int .i64 k] w fun e w' => ∃ r, e = .returned (.tuple #[r, .int .i64 cd]) ∧ w'.ownsRow w.heap.size 5 1 r n (xs.map (Value.int .u8)) ∧ Below w.heap.size w w')
    (hI : ∀ w : World, Calls Try.prog 6 #[.int .i64 v, .int .i64 k] w fun e w' => ∃ r, e = .returned (.tuple #[r, .int .i64 cd]) ∧ w'.ownsRow w.heap.size 5 1 r n (xs.map (Value.int .u8)) ∧ Below w.heap.size w w') :
    Calls Try.prog 3 #[.int .i64 v, .int .i64 k] w fun e w' => e = .returned (.bool true) ∧ Below w.heap.size w w' := by
  go_enter Try.func3, Try.ntmps3
  go_wp2_with fail
  go_at_call 5
  refine (hS _).mono ?_
  rintro e w1 ⟨rS, rfl, oS, b1⟩
  have hlen : xs.length = n := by simpa using oS.1
  go_wp2_with fail
  go_at_call 6
  refine (hI _).mono ?_
  rintro e w2 ⟨rI, rfl, oI, b2⟩
  go_wp2_with fail
  go_at_call 7
  refine (eqBytes_same _ _ xs _ (row_of_owns oI) ((row_of_owns oS).below b2) (by omega)).mono ?_
  rintro e w3 ⟨rfl, m3, rfl⟩
  go_wp2_with fail
  go_at_call 8
  refine (markBytes 1 n w1.heap.size _ xs _ (by omega) (by decide) (by decide) (owns_drewN oI m3)).mono ?_
  rintro e w4 ⟨rfl, oM, b4, z4⟩
  have b4' : Below w1.heap.size w1 w4 := b2.trans (below_drewN (Below.refl _ _) m3 |>.trans b4)
  go_wp2_with fail
  go_at_call 9
  refine (heldBytes 1 n _ _ (row_of_owns oM) (by omega) (by decide) (by decide)).mono ?_
  rintro e w5 ⟨rfl, rfl⟩
  go_wp2_with fail
  go_at_call 6
  refine (hI _).mono ?_
  rintro e w6 ⟨rH, rfl, oH, b6⟩
  have b6' : Below w1.heap.size w1 w6 := b4'.trans (b6.mono b4'.size)
  go_wp2_with fail
  go_at_call 7
  refine (eqBytes_same _ _ xs _ (row_of_owns oH) ((row_of_owns oS).below b6') (by omega)).mono ?_
  rintro e w7 ⟨rfl, m7, rfl⟩
  go_wp2_with fail
  go_at_call 9
  refine (heldBytes 1 n _ _ (((row_of_owns oM).below b6).drewN m7) (by omega) (by decide) (by decide)).mono ?_
  rintro e w8 ⟨rfl, rfl⟩
  go_wp2
  go_ret
  exact ⟨rfl, below_drewN (b1.trans (b6'.mono b1.size)) m7⟩


theorem i64_bd {v : Int} (h : (Lit.int .i64 v).wf = true) : -9223372036854775808 ≤ v ∧ v ≤ 9223372036854775807 := by
  simpa [Lit.wf, IntKind.min, IntKind.max, IntKind.signed, IntKind.bits] using h

theorem fnExactPutFixed_walk (v k : Int) (hv : (Lit.int .i64 v).wf = true) (_ : (Lit.int .i64 k).wf = true) (w : World) :
    Calls Try.prog 3 #[.int .i64 v, .int .i64 k] w fun e w' => e = .returned (.bool true) ∧ Below w.heap.size w w' := by
  have hm := (i64_bd hv).2
  by_cases h : k < 1 ∨ 8 < k ∨ v < 0
  · exact putFixedLaw v k 1 0 [] w (by decide) (fun w => specFixedBad v k w h) (fun w => implFixedBad v k w h)
  · have h0 : 0 ≤ v := by omega
    have hk : k = 1 ∨ k = 2 ∨ k = 3 ∨ k = 4 ∨ k = 5 ∨ k = 6 ∨ k = 7 ∨ k = 8 := by omega
    rcases hk with rfl | rfl | rfl | rfl | rfl | rfl | rfl | rfl
    · by_cases h1 : v < 256
      · exact putFixedLaw v 1 0 1 (be v 1) w (by decide) (fun w => specFixed_1 v w h0 hm h1) (fun w => implFixed_1 v w h0 hm h1)
      · exact putFixedLaw v 1 1 0 [] w (by decide) (fun w => specFixedNot_1 v w h0 hm (by omega)) (fun w => implFixedNot_1 v w h0 hm (by omega))
    · by_cases h1 : v < 65536
      · exact putFixedLaw v 2 0 2 (be v 2) w (by decide) (fun w => specFixed_2 v w h0 hm h1) (fun w => implFixed_2 v w h0 hm h1)
      · exact putFixedLaw v 2 1 0 [] w (by decide) (fun w => specFixedNot_2 v w h0 hm (by omega)) (fun w => implFixedNot_2 v w h0 hm (by omega))
    · by_cases h1 : v < 16777216
      · exact putFixedLaw v 3 0 3 (be v 3) w (by decide) (fun w => specFixed_3 v w h0 hm h1) (fun w => implFixed_3 v w h0 hm h1)
      · exact putFixedLaw v 3 1 0 [] w (by decide) (fun w => specFixedNot_3 v w h0 hm (by omega)) (fun w => implFixedNot_3 v w h0 hm (by omega))
    · by_cases h1 : v < 4294967296
      · exact putFixedLaw v 4 0 4 (be v 4) w (by decide) (fun w => specFixed_4 v w h0 hm h1) (fun w => implFixed_4 v w h0 hm h1)
      · exact putFixedLaw v 4 1 0 [] w (by decide) (fun w => specFixedNot_4 v w h0 hm (by omega)) (fun w => implFixedNot_4 v w h0 hm (by omega))
    · by_cases h1 : v < 1099511627776
      · exact putFixedLaw v 5 0 5 (be v 5) w (by decide) (fun w => specFixed_5 v w h0 hm h1) (fun w => implFixed_5 v w h0 hm h1)
      · exact putFixedLaw v 5 1 0 [] w (by decide) (fun w => specFixedNot_5 v w h0 hm (by omega)) (fun w => implFixedNot_5 v w h0 hm (by omega))
    · by_cases h1 : v < 281474976710656
      · exact putFixedLaw v 6 0 6 (be v 6) w (by decide) (fun w => specFixed_6 v w h0 hm h1) (fun w => implFixed_6 v w h0 hm h1)
      · exact putFixedLaw v 6 1 0 [] w (by decide) (fun w => specFixedNot_6 v w h0 hm (by omega)) (fun w => implFixedNot_6 v w h0 hm (by omega))
    · by_cases h1 : v < 72057594037927936
      · exact putFixedLaw v 7 0 7 (be v 7) w (by decide) (fun w => specFixed_7 v w h0 hm h1) (fun w => implFixed_7 v w h0 hm h1)
      · exact putFixedLaw v 7 1 0 [] w (by decide) (fun w => specFixedNot_7 v w h0 hm (by omega)) (fun w => implFixedNot_7 v w h0 hm (by omega))
    · exact putFixedLaw v 8 0 8 (be v 8) w (by decide) (fun w => specFixed_8 v w h0 hm) (fun w => implFixed_8 v w h0 hm)
end Go.Proofs.Ytkjfpgdnhdnceah
