import Derived.Test.YtdgekdbgjilbdaaDoorRvS
import Derived.Test.YtdgekdbgjilbdaaDoorEqBytes
import Derived.Test.YtdgekdbgjilbdaaDoorMarkBytes
import Derived.Test.YtdgekdbgjilbdaaDoorEqInts
import Derived.Test.YtdgekdbgjilbdaaDoorMarkInts
import Derived.Test.YtdgekdbgjilbdaaDoorToBytes
namespace Go.Proofs.YtdgekdbgjilbdaaDoor
open Go.RowKit
set_option linter.unusedVariables false

theorem readVersions_huge (ao : Option Addr) (n cap : Nat) (w : World) (h : 1048576 < n) (hm : n ≤ 9223372036854775807) :
    Calls Tryd.prog 6 #[.slice ao n cap] w fun e w' => e = .returned (.bool true) ∧ Below w.heap.size w w' := by
  go_enter Tryd.func6, Tryd.ntmps6
  go_wp2
  go_ret
  exact ⟨rfl, Below.refl _ _⟩

set_option maxHeartbeats 1000000 in
theorem readVersionsLaw (v : Value) (xs : List Int) (n : Nat) (ys : List Int) (cd : Int) (w : World) (ht : T3 w) (hrow : Row w .u8 v xs) (hn : xs.length ≤ 1048576) (hy : ys.length ≤ 4096)
    (hS : ∀ (w : World) (v : Value), Row w .u8 v xs → Calls Tryd.prog 22 #[v] w fun e w' => ∃ r, e = .returned (.tuple #[r, .int .i64 cd]) ∧ w'.ownsRow w.heap.size 3 1 r ys.length (ys.map (Value.int .i64)) ∧ Below w.heap.size w w')
    (hI : ∀ (w : World) (v : Value), T3 w → Row w .u8 v xs → Calls Tryd.prog 23 #[v] w fun e w' => ∃ r, e = .returned (.tuple #[r, .int .i64 cd]) ∧ w'.ownsRow w.heap.size 3 1 r ys.length (ys.map (Value.int .i64)) ∧ Below w.heap.size w w') :
    Calls Tryd.prog 6 #[v] w fun e w' => e = .returned (.bool true) ∧ Below w.heap.size w w' := by
  have tb : ∀ w : World, Row w .u8 v xs → Calls Tryd.prog 8 #[v] w fun e w' => ∃ r, e = .returned r ∧ w'.ownsRow w.heap.size 5 1 r xs.length (xs.map (Value.int .u8)) ∧ Below w.heap.size w w' :=
    fun w h => toBytes v xs w h (by omega)
  obtain ⟨ao, cap, hv⟩ := hrow.form
  rw [hv] at tb hrow ⊢
  clear hv
  have HN : Hid (xs.length ≤ 1048576) := hn
  obtain ⟨n, en⟩ : ∃ n, n = xs.length := ⟨_, rfl⟩
  rw [← en] at tb hrow hn ⊢
  have EN : Hid (n = xs.length) := en
  clear en
  obtain ⟨m, em⟩ : ∃ m, m = ys.length := ⟨_, rfl⟩
  rw [← em] at hS hI hy
  have EM : Hid (m = ys.length) := em
  clear em
  go_enter Tryd.func6, Tryd.ntmps6
  go_wp2_with fail
  go_at_call 8
  refine (tb _ hrow).mono ?_
  rintro e w1 ⟨r1, rfl, o1, b1⟩
  go_wp2_with fail
  go_at_call 22
  refine (hS _ _ (row_of_owns o1)).mono ?_
  rintro e w2 ⟨rS, rfl, oS, b2⟩
  have c2 : Below w.heap.size w w2 := b1.trans (b2.mono b1.size)
  go_wp2_with fail
  go_at_call 8
  refine (tb _ (hrow.below c2)).mono ?_
  rintro e w3 ⟨x0, rfl, oX, b3⟩
  have c3 : Below w.heap.size w w3 := c2.trans (b3.mono c2.size)
  go_wp2_with fail
  go_at_call 23
  refine (hI _ _ (ht.below c3 ht.lt) (row_of_owns oX)).mono ?_
  rintro e w4 ⟨g0, rfl, oG, b4⟩
  have c4 : Below w.heap.size w w4 := c3.trans (b4.mono c3.size)
  have d4 : Below w2.heap.size w2 w4 := b3.trans (b4.mono b3.size)
  go_wp2_with fail
  go_at_call 24
  refine (eqInts_same _ _ ys _ (row_of_owns oG) ((row_of_owns oS).below d4) (by rw [← EM.out]; omega)).mono ?_
  rintro e w4' ⟨rfl, m4, rfl⟩
  have c4' : Below w.heap.size w (w4.drewN m4) := below_drewN c4 m4
  go_wp2_with fail
  go_at_call 8
  refine (tb _ (hrow.below c4')).mono ?_
  rintro e w5 ⟨r5, rfl, o5, b5⟩
  have b5' : Below w4.heap.size w4 w5 := (below_drewN (Below.refl _ _) m4).trans b5
  have c5 : Below w.heap.size w w5 := c4.trans (b5'.mono c4.size)
  have d5 : Below w2.heap.size w2 w5 := d4.trans (b5'.mono d4.size)
  have oX5 := owns_below oX (b4.trans (b5'.mono b4.size))
  have oG5 := owns_below oG b5'
  go_wp2_with fail
  go_at_call 11
  refine (eqBytes_same _ _ xs _ (row_of_owns oX5) (row_of_owns o5) (by have := HN.out; omega)).mono ?_
  rintro e w5' ⟨rfl, m5, rfl⟩
  go_wp2_with fail
  go_at_call 12
  refine (markBytes 1 n w2.heap.size _ xs _ (by omega) (by decide) (by decide) (owns_drewN oX5 m5)).mono ?_
  rintro e w6 ⟨rfl, oX6, b6, z6, n6⟩
  have d6 : Below w2.heap.size w2 w6 := d5.trans ((below_drewN (Below.refl _ _) m5).trans b6)
  have c6 : Below w.heap.size w w6 := c2.trans (d6.mono c2.size)
  have oG6 := n6.owns (owns_drewN oG5 m5) (owns_apart oX oG (Nat.le_refl _))
  go_wp2_with fail
  go_at_call 24
  refine (eqInts_same _ _ ys _ (row_of_owns oG6) ((row_of_owns oS).below d6) (by rw [← EM.out]; omega)).mono ?_
  rintro e w6' ⟨rfl, m6, rfl⟩
  go_wp2_with fail
  go_at_call 25
  refine (markInts 1 m w3.heap.size _ ys _ (by omega) (by decide) (by decide) (owns_drewN oG6 m6)).mono ?_
  rintro e w7 ⟨rfl, oG7, b7, z7, n7⟩
  have h23 : w2.heap.size ≤ w3.heap.size := b3.size
  have d7 : Below w2.heap.size w2 w7 := d6.trans ((below_drewN (Below.refl _ _) m6).trans (b7.mono h23))
  have c7 : Below w.heap.size w w7 := c2.trans (d7.mono c2.size)
  go_wp2_with fail
  go_at_call 26
  refine (heldInts 1 m _ _ (row_of_owns oG7) (by omega) (by decide) (by decide)).mono ?_
  rintro e w7' ⟨rfl, rfl⟩
  go_wp2_with fail
  go_at_call 8
  refine (tb _ (hrow.below c7)).mono ?_
  rintro e w8 ⟨r8, rfl, o8, b8⟩
  have c8 : Below w.heap.size w w8 := c7.trans (b8.mono c7.size)
  have d8 : Below w2.heap.size w2 w8 := d7.trans (b8.mono d7.size)
  go_wp2_with fail
  go_at_call 23
  refine (hI _ _ (ht.below c8 ht.lt) (row_of_owns o8)).mono ?_
  rintro e w9 ⟨h0, rfl, oH, b9⟩
  have d9 : Below w2.heap.size w2 w9 := d8.trans (b9.mono d8.size)
  go_wp2_with fail
  go_at_call 24
  refine (eqInts_same _ _ ys _ (row_of_owns oH) ((row_of_owns oS).below d9) (by rw [← EM.out]; omega)).mono ?_
  rintro e w9' ⟨rfl, m9, rfl⟩
  go_wp2_with fail
  go_at_call 26
  refine (heldInts 1 m _ _ ((row_of_owns (owns_below oG7 (b8.trans (b9.mono b8.size)))).drewN m9) (by omega) (by decide) (by decide)).mono ?_
  rintro e w10 ⟨rfl, rfl⟩
  go_wp2
  go_ret
  exact ⟨rfl, below_drewN (c2.trans (d9.mono c2.size)) m9⟩

theorem fnExactReadVersions_walk (v : Value) (xs : List Int) (hl : xs.length ≤ maxLen) (hwf : ∀ x ∈ xs, (Lit.int .u8 x).wf = true)
    (w : World) (hrow : Row w .u8 v xs) (ht : T3 w) :
    Calls Tryd.prog 6 #[v] w fun e w' => e = .returned (.bool true) ∧ Below w.heap.size w w' := by
  have hm : xs.length ≤ 9223372036854775807 := by unfold maxLen at hl; omega
  have hB := bytes_of_wf hwf
  by_cases h20 : 1048576 < xs.length
  · obtain ⟨ao, cap, rfl⟩ := hrow.form
    exact readVersions_huge ao _ cap w h20 hm
  · exact readVersionsLaw v xs 0 (rvL xs) (rvC xs) w ht hrow (by omega) (rvL_length xs) (fun w v h => specRV v xs w h hB hm) (fun w v ht h => implRV v xs w ht h hB hm)
end Go.Proofs.YtdgekdbgjilbdaaDoor
