import Derived.Test.YtppbkmmhbcpdjaaGpS
import Derived.Test.YtppbkmmhbcpdjaaGpI
import Derived.Test.YtppbkmmhbcpdjaaToBytes
import Derived.Test.YtppbkmmhbcpdjaaEqBytes
namespace Go.Proofs.Ytppbkmmhbcpdjaa
open Go.RowKit
set_option linter.unusedVariables false

theorem getPrefix_huge (ao : Option Addr) (n cap : Nat) (a k : Int) (w : World) (h : 1048576 < n) (hm : n ≤ 9223372036854775807) :
    Calls Try.prog 4 #[.slice ao n cap, .int .i64 a, .int .i64 k] w fun e w' => e = .returned (.bool true) ∧ Below w.heap.size w w' := by
  go_enter Try.func4, Try.ntmps4
  go_wp2
  go_ret
  exact ⟨rfl, Below.refl _ _⟩

set_option maxHeartbeats 800000 in
theorem getPrefixLaw (v : Value) (xs : List Int) (a k : Int) (x y z : Int) (w : World) (hrow : Row w .u8 v xs) (hn : xs.length ≤ 1048576)
    (hS : ∀ (w : World) (v : Value), Row w .u8 v xs → Calls Try.prog 10 #[v, .int .i64 a, .int .i64 k] w fun e w' => e = .returned (.tuple #[.int .i64 x, .int .i64 y, .int .i64 z]) ∧ w' = w)
    (hI : ∀ (w : World) (v : Value), Row w .u8 v xs → Calls Try.prog 12 #[v, .int .i64 a, .int .i64 k] w fun e w' => e = .returned (.tuple #[.int .i64 x, .int .i64 y, .int .i64 z]) ∧ ∃ m, w' = w.drewN m) :
    Calls Try.prog 4 #[v, .int .i64 a, .int .i64 k] w fun e w' => e = .returned (.bool true) ∧ Below w.heap.size w w' := by
  have tb : ∀ w : World, Row w .u8 v xs → Calls Try.prog 11 #[v] w fun e w' => ∃ r, e = .returned r ∧ w'.ownsRow w.heap.size 5 1 r xs.length (xs.map (Value.int .u8)) ∧ Below w.heap.size w w' :=
    fun w h => toBytes v xs w h (by omega)
  obtain ⟨ao, cap, hv⟩ := hrow.form
  rw [hv] at tb hrow ⊢
  clear hv
  have HN : Hid (xs.length ≤ 1048576) := hn
  obtain ⟨n, en⟩ : ∃ n, n = xs.length := ⟨_, rfl⟩
  rw [← en] at tb hrow hn ⊢
  have EN : Hid (n = xs.length) := en
  clear en
  go_enter Try.func4, Try.ntmps4
  go_wp2_with fail
  go_at_call 11
  refine (tb _ hrow).mono ?_
  rintro e w1 ⟨r1, rfl, o1, b1⟩
  have hrow1 := hrow.below b1
  go_wp2_with fail
  go_at_call 10
  refine (hS _ _ (row_of_owns o1)).mono ?_
  rintro e w2 ⟨rfl, rfl⟩
  go_wp2_with fail
  go_at_call 11
  refine (tb _ hrow1).mono ?_
  rintro e w3 ⟨r3, rfl, o3, b3⟩
  have hrow3 := hrow1.below b3
  go_wp2_with fail
  go_at_call 12
  refine (hI _ _ (row_of_owns o3)).mono ?_
  rintro e w4 ⟨rfl, m4, hw4⟩
  have b4 : Below w3.heap.size w3 w4 := by rw [hw4]; exact below_drewN (Below.refl _ _) m4
  have hrow4 := hrow3.below b4
  have o4 := owns_below o3 b4
  clear hw4
  go_wp2_with fail
  go_at_call 11
  refine (tb _ hrow4).mono ?_
  rintro e w5 ⟨r5, rfl, o5, b5⟩
  go_wp2_with fail
  go_at_call 7
  refine (eqBytes_same _ _ xs _ ((row_of_owns o4).below b5) (row_of_owns o5) (by have := HN.out; omega)).mono ?_
  rintro e w6 ⟨rfl, m6, rfl⟩
  go_wp2
  go_ret
  exact ⟨rfl, below_drewN (((b1.trans (b3.mono b1.size)).trans (b4.mono (Nat.le_trans b1.size b3.size))).trans (b5.mono (Nat.le_trans b1.size (Nat.le_trans b3.size b4.size)))) m6⟩


theorem gpW_long (ao : Option Addr) (n cap : Nat) (a k : Int) (w : World) (h : 65536 < n) (hm : n ≤ 9223372036854775807) :
    Calls Try.prog 10 #[.slice ao n cap, .int .i64 a, .int .i64 k] w fun e w' => e = .returned (.tuple #[.int .i64 0, .int .i64 0, .int .i64 4]) ∧ w' = w := by
  go_enter Try.func10, Try.ntmps10
  go_wp2
  go_ret3
  exact ⟨rfl, rfl⟩
theorem gpW_bad (ao : Option Addr) (n cap : Nat) (a k : Int) (w : World) (h : n ≤ 65536) (hb : k < 1 ∨ 8 < k ∨ a < 0 ∨ (n : Int) < a) :
    Calls Try.prog 10 #[.slice ao n cap, .int .i64 a, .int .i64 k] w fun e w' => e = .returned (.tuple #[.int .i64 0, .int .i64 0, .int .i64 1]) ∧ w' = w := by
  by_cases h1 : k < 1
  · clear hb
    go_enter Try.func10, Try.ntmps10
    go_wp2
    go_ret3
    exact ⟨rfl, rfl⟩
  · by_cases h2 : 8 < k
    · clear hb
      go_enter Try.func10, Try.ntmps10
      go_wp2
      go_ret3
      exact ⟨rfl, rfl⟩
    · by_cases h3 : a < 0
      · clear hb
        go_enter Try.func10, Try.ntmps10
        go_wp2
        go_ret3
        exact ⟨rfl, rfl⟩
      · have h4 : (n : Int) < a := by omega
        clear hb
        go_enter Try.func10, Try.ntmps10
        go_wp2
        go_ret3
        exact ⟨rfl, rfl⟩
theorem gpW_ok (ao : Option Addr) (n cap : Nat) (a k x y z : Int) (w : World) (h : n ≤ 65536) (k1 : 1 ≤ k) (k8 : k ≤ 8) (a0 : 0 ≤ a) (an : a ≤ (n : Int))
    (hP : Calls Try.prog 17 #[.slice ao n cap, .int .i64 a, .int .i64 k] w fun e w' => e = .returned (.tuple #[.int .i64 x, .int .i64 y, .int .i64 z]) ∧ w' = w) :
    Calls Try.prog 10 #[.slice ao n cap, .int .i64 a, .int .i64 k] w fun e w' => e = .returned (.tuple #[.int .i64 x, .int .i64 y, .int .i64 z]) ∧ w' = w := by
  have HP : Hid _ := And.intro hP True.intro
  clear hP
  go_enter Try.func10, Try.ntmps10
  go_wp2_with (go_at_call 17; refine HP.out.1.mono ?_; rintro e w' ⟨rfl, hw⟩; subst w')
  go_ret3
  exact ⟨rfl, rfl⟩
theorem i64_bdG {v : Int} (h : (Lit.int .i64 v).wf = true) : -9223372036854775808 ≤ v ∧ v ≤ 9223372036854775807 := by
  simpa [Lit.wf, IntKind.min, IntKind.max, IntKind.signed, IntKind.bits] using h
/-- GetPrefix of both sides, at every input that is not too long. -/
def gpA (xs : List Int) (a k : Int) : Int × Int × Int :=
  if 65536 < xs.length then (0, 0, 4) else if k < 1 ∨ 8 < k ∨ a < 0 ∨ (xs.length : Int) < a then (0, 0, 1) else gpR xs a.toNat (fl k.toNat)
theorem specGP (v : Value) (xs : List Int) (a k : Int) (w : World) (hrow : Row w .u8 v xs) (hm : xs.length ≤ 9223372036854775807) (hB : Bytes xs) :
    Calls Try.prog 10 #[v, .int .i64 a, .int .i64 k] w fun e w' => e = .returned (.tuple #[.int .i64 (gpA xs a k).1, .int .i64 (gpA xs a k).2.1, .int .i64 (gpA xs a k).2.2]) ∧ w' = w := by
  unfold gpA
  by_cases h16 : 65536 < xs.length
  · rw [if_pos h16]
    obtain ⟨ao, cap, rfl⟩ := hrow.form
    exact gpW_long ao _ cap a k w h16 hm
  · rw [if_neg h16]
    by_cases hbad : k < 1 ∨ 8 < k ∨ a < 0 ∨ (xs.length : Int) < a
    · rw [if_pos hbad]
      obtain ⟨ao, cap, rfl⟩ := hrow.form
      exact gpW_bad ao _ cap a k w (by omega) hbad
    · rw [if_neg hbad]
      obtain ⟨p, rfl⟩ := Int.eq_ofNat_of_zero_le (show 0 ≤ a by omega)
      obtain ⟨q, rfl⟩ := Int.eq_ofNat_of_zero_le (show 0 ≤ k by omega)
      rw [Int.toNat_natCast, Int.toNat_natCast]
      by_cases hp : p < xs.length
      · obtain ⟨b, off, cap, rfl, hb, hc⟩ := hrow.at (by omega)
        exact gpW_ok _ _ cap _ _ _ _ _ w (by omega) (by omega) (by omega) (by omega) (by omega) (gpS_at b off _ cap p q _ rfl xs _ w (by omega) rfl hp (by omega) (by omega) hB rfl hc)
      · obtain ⟨ao, cap, rfl⟩ := hrow.form
        unfold gpR
        rw [if_pos (by omega)]
        exact gpW_ok _ _ cap _ _ _ _ _ w (by omega) (by omega) (by omega) (by omega) (by omega) (gpS_end ao _ cap _ _ w (by omega) (by omega))
theorem implGP (v : Value) (xs : List Int) (a k : Int) (w : World) (hrow : Row w .u8 v xs) (hm : xs.length ≤ 9223372036854775807) (hB : Bytes xs) :
    Calls Try.prog 12 #[v, .int .i64 a, .int .i64 k] w fun e w' => e = .returned (.tuple #[.int .i64 (gpA xs a k).1, .int .i64 (gpA xs a k).2.1, .int .i64 (gpA xs a k).2.2]) ∧ ∃ m, w' = w.drewN m := by
  have D0 : ∀ (u : World), ∃ m, u = u.drewN m := fun u => ⟨0, rfl⟩
  unfold gpA
  by_cases h16 : 65536 < xs.length
  · rw [if_pos h16]
    obtain ⟨ao, cap, rfl⟩ := hrow.form
    exact (gpI_long ao _ cap a k w h16 hm).mono fun e w' ⟨h1, h2⟩ => ⟨h1, by rw [h2]; exact D0 w⟩
  · rw [if_neg h16]
    by_cases hbad : k < 1 ∨ 8 < k ∨ a < 0 ∨ (xs.length : Int) < a
    · rw [if_pos hbad]
      obtain ⟨ao, cap, rfl⟩ := hrow.form
      by_cases hpl : a < 0 ∨ (xs.length : Int) < a
      · exact (gpI_place ao _ cap a k w (by omega) hpl).mono fun e w' ⟨h1, h2⟩ => ⟨h1, by rw [h2]; exact D0 w⟩
      · exact (gpI_bits ao _ cap a k w (by omega) (by omega) (by omega) (by omega)).mono fun e w' ⟨h1, h2⟩ => ⟨h1, by rw [h2]; exact D0 w⟩
    · rw [if_neg hbad]
      obtain ⟨p, rfl⟩ := Int.eq_ofNat_of_zero_le (show 0 ≤ a by omega)
      obtain ⟨q, rfl⟩ := Int.eq_ofNat_of_zero_le (show 0 ≤ k by omega)
      rw [Int.toNat_natCast, Int.toNat_natCast]
      by_cases hp : p < xs.length
      · obtain ⟨b, off, cap, rfl, hb, hcap, hc⟩ := hrow.full (by omega)
        exact gpI_at b off _ cap p q _ rfl xs _ w (by omega) hcap rfl hp (by omega) (by omega) hB rfl hc
      · obtain ⟨ao, cap, rfl⟩ := hrow.form
        unfold gpR
        rw [if_pos (by omega)]
        obtain rfl : p = xs.length := by omega
        exact (gpI_end ao _ cap _ w (by omega) (by omega)).mono fun e w' ⟨h1, h2⟩ => ⟨h1, by rw [h2]; exact D0 w⟩
theorem fnExactGetPrefix_walk (v : Value) (xs : List Int) (a k : Int) (hl : xs.length ≤ maxLen) (hwf : ∀ x ∈ xs, (Lit.int .u8 x).wf = true) (ha : (Lit.int .i64 a).wf = true) (hk : (Lit.int .i64 k).wf = true)
    (w : World) (hrow : Row w .u8 v xs) :
    Calls Try.prog 4 #[v, .int .i64 a, .int .i64 k] w fun e w' => e = .returned (.bool true) ∧ Below w.heap.size w w' := by
  have hm : xs.length ≤ 9223372036854775807 := by unfold maxLen at hl; omega
  have hB := bytes_of_wf hwf
  by_cases h20 : 1048576 < xs.length
  · obtain ⟨ao, cap, rfl⟩ := hrow.form
    exact getPrefix_huge ao _ cap a k w h20 hm
  · exact getPrefixLaw v xs a k _ _ _ w hrow (by omega) (fun w v h => specGP v xs a k w h hm hB) (fun w v h => implGP v xs a k w h hm hB)
end Go.Proofs.Ytppbkmmhbcpdjaa
