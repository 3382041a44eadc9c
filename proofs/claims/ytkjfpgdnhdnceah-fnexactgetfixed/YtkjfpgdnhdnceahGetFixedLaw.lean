import Derived.Test.YtkjfpgdnhdnceahGetFixed
import Derived.Test.YtkjfpgdnhdnceahToBytes
import Derived.Test.YtkjfpgdnhdnceahEqBytes
namespace Go.Proofs.Ytkjfpgdnhdnceah
open Go.RowKit
set_option linter.unusedVariables false

theorem getFixed_huge (ao : Option Addr) (n cap : Nat) (a k : Int) (w : World) (h : 1048576 < n) (hm : n ≤ 9223372036854775807) :
    Calls Try.prog 4 #[.slice ao n cap, .int .i64 a, .int .i64 k] w fun e w' => e = .returned (.bool true) ∧ Below w.heap.size w w' := by
  go_enter Try.func4, Try.ntmps4
  go_wp2
  go_ret
  exact ⟨rfl, Below.refl _ _⟩

set_option maxHeartbeats 800000 in
theorem getFixedLaw (v : Value) (xs : List Int) (a k : Int) (x y z : Int) (w : World) (hrow : Row w .u8 v xs) (hn : xs.length ≤ 1048576)
    (hS : ∀ (w : World) (v : Value), Row w .u8 v xs → Calls Try.prog 10 #[v, .int .i64 a, .int .i64 k] w fun e w' => e = .returned (.tuple #[.int .i64 x, .int .i64 y, .int .i64 z]) ∧ w' = w)
    (hI : ∀ (w : World) (v : Value), Row w .u8 v xs → Calls Try.prog 12 #[v, .int .i64 a, .int .i64 k] w fun e w' => e = .returned (.tuple #[.int .i64 x, .int .i64 y, .int .i64 z]) ∧ w' = w) :
    Calls Try.prog 4 #[v, .int .i64 a, .int .i64 k] w fun e w' => e = .returned (.bool true) ∧ Below w.heap.size w w' := by
  have tb : ∀ w : World, Row w .u8 v xs → Calls Try.prog 11 #[v] w fun e w' => ∃ r, e = .returned r ∧ w'.ownsRow w.heap.size 5 1 r xs.length (xs.map (Value.int .u8)) ∧ Below w.heap.size w w' :=
    fun w h => toBytes v xs w h (by omega)
  obtain ⟨ao, cap, hv⟩ := hrow.form
  rw [hv] at tb hrow ⊢
  clear hv
  have HN : Hid (xs.length ≤ 1048576) := hn
  obtain ⟨n, en⟩ : ∃ n, n = xs.length := ⟨_, rfl⟩
  rw [← en] at tb hrow hn ⊢
  have EN : Hid (n = xs.length) := en
  clear en
  go_enter Try.func4, Try.ntmps4
  go_wp2_with fail
  go_at_call 11
  refine (tb _ hrow).mono ?_
  rintro e w1 ⟨r1, rfl, o1, b1⟩
  have hrow1 := hrow.below b1
  go_wp2_with fail
  go_at_call 10
  refine (hS _ _ (row_of_owns o1)).mono ?_
  rintro e w2 ⟨rfl, rfl⟩
  go_wp2_with fail
  go_at_call 11
  refine (tb _ hrow1).mono ?_
  rintro e w3 ⟨r3, rfl, o3, b3⟩
  have hrow3 := hrow1.below b3
  go_wp2_with fail
  go_at_call 12
  refine (hI _ _ (row_of_owns o3)).mono ?_
  rintro e w4 ⟨rfl, rfl⟩
  go_wp2_with fail
  go_at_call 11
  refine (tb _ hrow3).mono ?_
  rintro e w5 ⟨r5, rfl, o5, b5⟩
  go_wp2_with fail
  go_at_call 7
  refine (eqBytes_same _ _ xs _ ((row_of_owns o3).below b5) (row_of_owns o5) (by have := HN.out; omega)).mono ?_
  rintro e w6 ⟨rfl, m6, rfl⟩
  go_wp2
  go_ret
  exact ⟨rfl, below_drewN ((b1.trans (b3.mono b1.size)).trans (b5.mono (Nat.le_trans b1.size b3.size))) m6⟩

theorem i64_bds {v : Int} (h : (Lit.int .i64 v).wf = true) : -9223372036854775808 ≤ v ∧ v ≤ 9223372036854775807 := by
  simpa [Lit.wf, IntKind.min, IntKind.max, IntKind.signed, IntKind.bits] using h

theorem fnExactGetFixed_walk (v : Value) (xs : List Int) (a k : Int) (hl : xs.length ≤ maxLen) (hwf : ∀ x ∈ xs, (Lit.int .u8 x).wf = true) (ha : (Lit.int .i64 a).wf = true) (hk : (Lit.int .i64 k).wf = true)
    (w : World) (hrow : Row w .u8 v xs) :
    Calls Try.prog 4 #[v, .int .i64 a, .int .i64 k] w fun e w' => e = .returned (.bool true) ∧ Below w.heap.size w w' := by
  have hm : xs.length ≤ 9223372036854775807 := by unfold maxLen at hl; omega
  have hB := bytes_of_wf hwf
  have ha' := i64_bds ha
  have hk' := i64_bds hk
  by_cases h20 : 1048576 < xs.length
  · obtain ⟨ao, cap, rfl⟩ := hrow.form
    exact getFixed_huge ao _ cap a k w h20 hm
  · by_cases h16 : 65536 < xs.length
    · refine getFixedLaw v xs a k 0 0 4 w hrow (by omega) (fun w v h => ?_) (fun w v h => ?_)
      · obtain ⟨ao, cap, rfl⟩ := h.form
        exact specGF_long ao _ cap a k w h16 hm
      · obtain ⟨ao, cap, rfl⟩ := h.form
        exact implGF_long ao _ cap a k w h16 hm
    · by_cases hbad : k < 1 ∨ 8 < k ∨ a < 0 ∨ (xs.length : Int) < a
      · refine getFixedLaw v xs a k 0 0 1 w hrow (by omega) (fun w v h => ?_) (fun w v h => ?_)
        · obtain ⟨ao, cap, rfl⟩ := h.form
          exact specGF_bad ao _ cap a k w (by omega) hbad
        · obtain ⟨ao, cap, rfl⟩ := h.form
          exact implGF_bad ao _ cap a k w (by omega) hbad
      · by_cases hs : (xs.length : Int) - a < k
        · refine getFixedLaw v xs a k 0 0 2 w hrow (by omega) (fun w v h => ?_) (fun w v h => ?_)
          · obtain ⟨ao, cap, rfl⟩ := h.form
            exact specGF_short ao _ cap a k w (by omega) (by omega) (by omega) (by omega) (by omega) hs
          · obtain ⟨ao, cap, rfl⟩ := h.form
            exact implGF_short ao _ cap a k w (by omega) (by omega) (by omega) (by omega) (by omega) hs
        · obtain ⟨i, rfl⟩ := Int.eq_ofNat_of_zero_le (show 0 ≤ a by omega)
          obtain ⟨m, rfl⟩ := Int.eq_ofNat_of_zero_le (show 0 ≤ k by omega)
          have hx := hB.at i
          have hsl := sub_len xs i m (by omega)
          have hsB : Bytes ((xs.drop i).take m) := (hB.drop i).take m
          by_cases h8 : m = 8
          · subst h8
            by_cases hge : 128 ≤ xs.getD i 0
            · refine getFixedLaw v xs _ _ 0 0 3 w hrow (by omega) (fun w v h => ?_) (fun w v h => ?_)
              · obtain ⟨b, off, cap, rfl, hb, hc⟩ := h.at (by omega)
                exact specGF_form b off _ cap i _ w (by omega) (by omega) (hc i (by omega)) hge hx.2
              · obtain ⟨b, off, cap, rfl, hb, hc⟩ := h.at (by omega)
                exact implGF_form b off _ cap i _ w (by omega) (by omega) (hc i (by omega)) hge hx.2
            · have hv1 := sub_bd _ hsB (by omega) (fun _ => by rw [sub_head xs i 8 (by decide)]; omega)
              refine getFixedLaw v xs _ _ (vals ((xs.drop i).take 8)) ((i : Int) + 8) 0 w hrow (by omega) (fun w v h => ?_) (fun w v h => ?_)
              · obtain ⟨b, off, cap, rfl, hb, hcap, hc⟩ := h.full (by omega)
                exact specGF_eight b off _ cap i _ hx.1 (by omega) _ w (by omega) (by omega) hcap (hc i (by omega)) (vals_nonneg _ hsB) hv1
                  (fun cap' => value_core 8 _ b (off + i) cap' w (by decide) hsl hsB hv1 (fun j hj => by rw [Nat.add_assoc, hc (i + j) (by omega)]; simp [List.getD, hj]))
              · obtain ⟨b, off, cap, rfl, hb, hcap, hc⟩ := h.full (by omega)
                exact implGF_eight b off _ cap i _ hx.1 (by omega) _ w (by omega) (by omega) hcap (hc i (by omega)) (vals_nonneg _ hsB) hv1
                  (fun cap' => read_core 8 _ b (off + i) cap' w (by decide) hsl hsB (fun j hj => by rw [Nat.add_assoc, hc (i + j) (by omega)]; simp [List.getD, hj]))
          · have hv1 := sub_bd _ hsB (by omega) (fun h => by omega)
            refine getFixedLaw v xs _ _ (vals ((xs.drop i).take m)) ((i : Int) + m) 0 w hrow (by omega) (fun w v h => ?_) (fun w v h => ?_)
            · obtain ⟨b, off, cap, rfl, hb, hcap, hc⟩ := h.full (by omega)
              exact specGF_lt b off _ cap i m (by omega) (by omega) _ w (by omega) (by omega) hcap (vals_nonneg _ hsB) hv1
                (fun cap' => value_core m _ b (off + i) cap' w (by omega) hsl hsB hv1 (fun j hj => by rw [Nat.add_assoc, hc (i + j) (by omega)]; simp [List.getD, hj]))
            · obtain ⟨b, off, cap, rfl, hb, hcap, hc⟩ := h.full (by omega)
              exact implGF_lt b off _ cap i m (by omega) (by omega) _ w (by omega) (by omega) hcap (vals_nonneg _ hsB) hv1
                (fun cap' => read_core m _ b (off + i) cap' w (by omega) hsl hsB (fun j hj => by rw [Nat.add_assoc, hc (i + j) (by omega)]; simp [List.getD, hj]))
end Go.Proofs.Ytkjfpgdnhdnceah
