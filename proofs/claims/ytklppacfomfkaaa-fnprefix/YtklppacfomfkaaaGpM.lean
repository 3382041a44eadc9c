import Derived.Test.YtklppacfomfkaaaPfM
namespace Go.Proofs.Ytklppacfomfkaaa
open Go.RowKit
set_option linter.unusedVariables false

/-- 128 to the k. -/
def un (k : Nat) : Int := ((2 ^ (7 * k) : Nat) : Int)
theorem un_zero : un 0 = 1 := rfl
theorem un_succ (k : Nat) : un (k + 1) = un k * 128 := by
  unfold un
  rw [show 7 * (k + 1) = 7 * k + 7 by omega, Nat.pow_add]
  omega
theorem un_lo (k : Nat) : 1 ≤ un k := by unfold un; have := Nat.one_le_two_pow (n := 7 * k); omega
theorem un_hi (k : Nat) (h : k ≤ 8) : un k ≤ 72057594037927936 := by
  unfold un
  have := Nat.pow_le_pow_right (n := 2) (by decide) (show 7 * k ≤ 56 by omega)
  omega
theorem un_hi7 (k : Nat) (h : k < 8) : un k ≤ 562949953421312 := by
  unfold un
  have := Nat.pow_le_pow_right (n := 2) (by decide) (show 7 * k ≤ 49 by omega)
  omega
theorem un_nine : un 9 = 9223372036854775808 := by decide
theorem un_sh (k : Nat) : (2 : Int) ^ (7 * (k : Int)).toNat = un k := by
  unfold un
  rw [show (7 * (k : Int)).toNat = 7 * k by omega]
  exact (Int.natCast_pow 2 (7 * k)).symm

/-- The pieces behind the first byte: k of them are read, their value is v. -/
def gpL (xs : List Int) (p : Nat) : Nat → Nat → Int → Int × Int × Int
  | 0, _, _ => (0, 0, 3)
  | n + 1, k, v =>
    if xs.length ≤ p + k then (0, 0, 2)
    else if (4611686018427387903 - v) / un k < xs.getD (p + k) 0 % 128 then (0, 0, 3)
    else if xs.getD (p + k) 0 < 128 then (v + xs.getD (p + k) 0 % 128 * un k, (p : Int) + k + 1, 0)
    else gpL xs p n (k + 1) (v + xs.getD (p + k) 0 % 128 * un k)
def gpR (xs : List Int) (p : Nat) (f : Int) : Int × Int × Int :=
  if xs.length ≤ p then (0, 0, 2) else if xs.getD p 0 % f < f - 1 then (xs.getD p 0 % f, (p : Int) + 1, 0) else gpL xs (p + 1) 10 0 (f - 1)
theorem gpL_short {xs : List Int} {p n k : Nat} {v : Int} {R : Int × Int × Int} (h : gpL xs p (n + 1) k v = R) (h1 : xs.length ≤ p + k) : R = (0, 0, 2) := by
  rw [← h]; simp [gpL, h1]
theorem gpL_form {xs : List Int} {p n k : Nat} {v c : Int} {R : Int × Int × Int} (h : gpL xs p (n + 1) k v = R) (h1 : p + k < xs.length) (hc : xs.getD (p + k) 0 = c) (h2 : (4611686018427387903 - v) / un k < c % 128) : R = (0, 0, 3) := by
  subst hc; rw [← h]; simp only [gpL, show ¬ xs.length ≤ p + k by omega, if_false, h2, if_true]
theorem gpL_end {xs : List Int} {p n k : Nat} {v c : Int} {R : Int × Int × Int} (h : gpL xs p (n + 1) k v = R) (h1 : p + k < xs.length) (hc : xs.getD (p + k) 0 = c) (h2 : ¬ (4611686018427387903 - v) / un k < c % 128) (h3 : c < 128) : R = (v + c % 128 * un k, (p : Int) + k + 1, 0) := by
  subst hc; rw [← h]; simp only [gpL, show ¬ xs.length ≤ p + k by omega, if_false, h2, h3, if_true]
theorem gpL_next {xs : List Int} {p n k : Nat} {v c : Int} {R : Int × Int × Int} (h : gpL xs p (n + 1) k v = R) (h1 : p + k < xs.length) (hc : xs.getD (p + k) 0 = c) (h2 : ¬ (4611686018427387903 - v) / un k < c % 128) (h3 : 128 ≤ c) : gpL xs p n (k + 1) (v + c % 128 * un k) = R := by
  subst hc; rw [← h]; simp only [gpL, show ¬ xs.length ≤ p + k by omega, if_false, h2, show ¬ xs.getD (p + k) 0 < 128 by omega]
theorem room_mul {v q u : Int} (hu : 1 ≤ u) (hq : 0 ≤ q) (h : ¬ (4611686018427387903 - v) / u < q) : 0 ≤ q * u ∧ v + q * u ≤ 4611686018427387903 := by
  have h1 : q ≤ (4611686018427387903 - v) / u := by omega
  have h2 := (Int.le_ediv_iff_mul_le (by omega : 0 < u)).1 h1
  exact ⟨Int.mul_nonneg hq (by omega), by omega⟩
theorem nine_zero {v q : Int} (h0 : 0 ≤ v) (h1 : v ≤ 4611686018427387903) (hq : 0 ≤ q) (h : ¬ (4611686018427387903 - v) / un 9 < q) : q = 0 := by
  rw [un_nine] at h; omega
end Go.Proofs.Ytklppacfomfkaaa
