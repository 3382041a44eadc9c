import Derived.Test.YtklppacfomfkaaaGpS
import Derived.Test.YtklppacfomfkaaaGpI
import Derived.Test.YtklppacfomfkaaaToBytes
import Derived.Test.YtklppacfomfkaaaEqBytes
namespace Go.Proofs.Ytklppacfomfkaaa
open Go.RowKit
set_option linter.unusedVariables false

theorem i64_bdG {v : Int} (h : (Lit.int .i64 v).wf = true) : -9223372036854775808 ≤ v ∧ v ≤ 9223372036854775807 := by
  simpa [Lit.wf, IntKind.min, IntKind.max, IntKind.signed, IntKind.bits] using h
/-- GetPrefix of both sides, at every input that is not too long. -/
def gpA (xs : List Int) (a k : Int) : Int × Int × Int :=
  if 65536 < xs.length then (0, 0, 4) else if k < 1 ∨ 8 < k ∨ a < 0 ∨ (xs.length : Int) < a then (0, 0, 1) else gpR xs a.toNat (fl k.toNat)
theorem implGP (v : Value) (xs : List Int) (a k : Int) (w : World) (hrow : Row w .u8 v xs) (hm : xs.length ≤ 9223372036854775807) (hB : Bytes xs) :
    Calls Try.prog 7 #[v, .int .i64 a, .int .i64 k] w fun e w' => e = .returned (.tuple #[.int .i64 (gpA xs a k).1, .int .i64 (gpA xs a k).2.1, .int .i64 (gpA xs a k).2.2]) ∧ ∃ m, w' = w.drewN m := by
  have D0 : ∀ (u : World), ∃ m, u = u.drewN m := fun u => ⟨0, rfl⟩
  unfold gpA
  by_cases h16 : 65536 < xs.length
  · rw [if_pos h16]
    obtain ⟨ao, cap, rfl⟩ := hrow.form
    exact (gpI_long ao _ cap a k w h16 hm).mono fun e w' ⟨h1, h2⟩ => ⟨h1, by rw [h2]; exact D0 w⟩
  · rw [if_neg h16]
    by_cases hbad : k < 1 ∨ 8 < k ∨ a < 0 ∨ (xs.length : Int) < a
    · rw [if_pos hbad]
      obtain ⟨ao, cap, rfl⟩ := hrow.form
      by_cases hpl : a < 0 ∨ (xs.length : Int) < a
      · exact (gpI_place ao _ cap a k w (by omega) hpl).mono fun e w' ⟨h1, h2⟩ => ⟨h1, by rw [h2]; exact D0 w⟩
      · exact (gpI_bits ao _ cap a k w (by omega) (by omega) (by omega) (by omega)).mono fun e w' ⟨h1, h2⟩ => ⟨h1, by rw [h2]; exact D0 w⟩
    · rw [if_neg hbad]
      obtain ⟨p, rfl⟩ := Int.eq_ofNat_of_zero_le (show 0 ≤ a by omega)
      obtain ⟨q, rfl⟩ := Int.eq_ofNat_of_zero_le (show 0 ≤ k by omega)
      rw [Int.toNat_natCast, Int.toNat_natCast]
      by_cases hp : p < xs.length
      · obtain ⟨b, off, cap, rfl, hb, hcap, hc⟩ := hrow.full (by omega)
        exact gpI_at b off _ cap p q _ rfl xs _ w (by omega) hcap rfl hp (by omega) (by omega) hB rfl hc
      · obtain ⟨ao, cap, rfl⟩ := hrow.form
        unfold gpR
        rw [if_pos (by omega)]
        obtain rfl : p = xs.length := by omega
        exact (gpI_end ao _ cap _ w (by omega) (by omega)).mono fun e w' ⟨h1, h2⟩ => ⟨h1, by rw [h2]; exact D0 w⟩
end Go.Proofs.Ytklppacfomfkaaa
