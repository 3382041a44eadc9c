import Derived.Test.YtdommkpeilmdnaaDoorVals
namespace Go.Proofs.YtdommkpeilmdnaaDoor
open Go.RowKit
set_option linter.unusedVariables false

theorem and_mask (n k : Nat) (hn : n < 18446744073709551616) (hk : k ≤ 63) : bits .and .u64 (n : Int) ((2 ^ k - 1 : Nat) : Int) = ((n % 2 ^ k : Nat) : Int) := by
  have h2 : 2 ^ k - 1 < 18446744073709551616 := by
    have : 2 ^ k ≤ 2 ^ 63 := Nat.pow_le_pow_right (by decide) hk
    have e : (2 : Nat) ^ 63 = 9223372036854775808 := by decide
    omega
  have hm : n % 2 ^ k < 18446744073709551616 := Nat.lt_of_le_of_lt (Nat.mod_le _ _) hn
  have e1 : (BitVec.ofInt IntKind.u64.bits (n : Int)).toNat = n := by
    show (BitVec.ofInt 64 (n : Int)).toNat = n
    rw [BitVec.ofInt_natCast, BitVec.toNat_ofNat]
    exact Nat.mod_eq_of_lt hn
  have e2 : (BitVec.ofInt IntKind.u64.bits ((2 ^ k - 1 : Nat) : Int)).toNat = 2 ^ k - 1 := by
    show (BitVec.ofInt 64 ((2 ^ k - 1 : Nat) : Int)).toNat = 2 ^ k - 1
    rw [BitVec.ofInt_natCast, BitVec.toNat_ofNat]
    exact Nat.mod_eq_of_lt h2
  show IntKind.u64.wrap (((BitVec.ofInt IntKind.u64.bits (n : Int)) &&& (BitVec.ofInt IntKind.u64.bits ((2 ^ k - 1 : Nat) : Int))).toNat : Int) = _
  rw [BitVec.toNat_and, e1, e2, Nat.and_two_pow_sub_one_eq_mod]
  generalize n % 2 ^ k = m at hm
  simp [IntKind.wrap, IntKind.bits, IntKind.signed]
  omega
theorem vals_lt8 (ys : List Int) (hb : Bytes ys) (h : ys.length ≤ 8) : vals ys < 18446744073709551616 := by
  have h1 := vals_lt ys hb
  have hn : (256 : Nat) ^ ys.length ≤ 256 ^ 8 := Nat.pow_le_pow_right (by decide) h
  generalize ys.length = m at h1 hn
  have e1 : ((256 ^ m : Nat) : Int) = (256 : Int) ^ m := Int.natCast_pow 256 m
  have e : (256 : Nat) ^ 8 = 18446744073709551616 := by decide
  rw [e] at hn
  rw [← e1] at h1
  omega
theorem mask_of (s m : Int) (k : Nat) (h0 : 0 ≤ s) (h1 : s < 18446744073709551616) (hk : k ≤ 63) (hm : m = ((2 ^ k - 1 : Nat) : Int)) : bits .and .u64 s m = s % ((2 ^ k : Nat) : Int) := by
  obtain ⟨n, rfl⟩ := Int.eq_ofNat_of_zero_le h0
  subst hm
  rw [and_mask n k (by omega) hk]
  exact Int.natCast_emod n (2 ^ k)
theorem vals_1 (ys : List Int) (h : ys.length = 1) : vals ys = ys.getD 0 0 := by
  match ys, h with
  | [a], _ => simp [vals, List.getD]
theorem low_1 (x0 : Int) (l0 : 0 ≤ x0) (u0 : x0 < 256) (hf : x0 / 64 = 0) : (x0) % 64 = x0 % 64 := by omega
theorem vals_2 (ys : List Int) (h : ys.length = 2) : vals ys = ys.getD 0 0 * 256 + ys.getD 1 0 := by
  match ys, h with
  | [a, b], _ => simp [vals, List.getD]
theorem low_2 (x0 x1 : Int) (l0 : 0 ≤ x0) (u0 : x0 < 256) (l1 : 0 ≤ x1) (u1 : x1 < 256) (hf : x0 / 64 = 1) : (x0 * 256 + x1) % 16384 = x0 % 64 * 256 + x1 := by omega
theorem vals_4 (ys : List Int) (h : ys.length = 4) : vals ys = ((ys.getD 0 0 * 256 + ys.getD 1 0) * 256 + ys.getD 2 0) * 256 + ys.getD 3 0 := by
  match ys, h with
  | [a, b, c, d], _ => simp [vals, List.getD]
theorem low_4 (x0 x1 x2 x3 : Int) (l0 : 0 ≤ x0) (u0 : x0 < 256) (l1 : 0 ≤ x1) (u1 : x1 < 256) (l2 : 0 ≤ x2) (u2 : x2 < 256) (l3 : 0 ≤ x3) (u3 : x3 < 256) (hf : x0 / 64 = 2) : (((x0 * 256 + x1) * 256 + x2) * 256 + x3) % 1073741824 = ((x0 % 64 * 256 + x1) * 256 + x2) * 256 + x3 := by omega
theorem vals_8 (ys : List Int) (h : ys.length = 8) : vals ys = ((((((ys.getD 0 0 * 256 + ys.getD 1 0) * 256 + ys.getD 2 0) * 256 + ys.getD 3 0) * 256 + ys.getD 4 0) * 256 + ys.getD 5 0) * 256 + ys.getD 6 0) * 256 + ys.getD 7 0 := by
  match ys, h with
  | [a, b, c, d, e, f, g, h], _ => simp [vals, List.getD]
theorem low_8 (x0 x1 x2 x3 x4 x5 x6 x7 : Int) (l0 : 0 ≤ x0) (u0 : x0 < 256) (l1 : 0 ≤ x1) (u1 : x1 < 256) (l2 : 0 ≤ x2) (u2 : x2 < 256) (l3 : 0 ≤ x3) (u3 : x3 < 256) (l4 : 0 ≤ x4) (u4 : x4 < 256) (l5 : 0 ≤ x5) (u5 : x5 < 256) (l6 : 0 ≤ x6) (u6 : x6 < 256) (l7 : 0 ≤ x7) (u7 : x7 < 256) (hf : x0 / 64 = 3) : (((((((x0 * 256 + x1) * 256 + x2) * 256 + x3) * 256 + x4) * 256 + x5) * 256 + x6) * 256 + x7) % 4611686018427387904 = ((((((x0 % 64 * 256 + x1) * 256 + x2) * 256 + x3) * 256 + x4) * 256 + x5) * 256 + x6) * 256 + x7 := by omega
def gvn (x : Int) : Nat := if x / 64 = 0 then 1 else if x / 64 = 1 then 2 else if x / 64 = 2 then 4 else 8
def gvm (x : Int) : Int := if x / 64 = 0 then 64 else if x / 64 = 1 then 16384 else if x / 64 = 2 then 1073741824 else 4611686018427387904
/-- What stands at a place: the number, the place behind it, the code. -/
def gv (xs : List Int) (a : Int) : Int × Int × Int :=
  if 65536 < xs.length then (0, 0, 4) else if a < 0 ∨ (xs.length : Int) < a then (0, 0, 1) else if a = xs.length then (0, 0, 2)
  else if xs.length < a.toNat + gvn (xs.getD a.toNat 0) then (0, 0, 2)
  else (vals ((xs.drop a.toNat).take (gvn (xs.getD a.toNat 0))) % gvm (xs.getD a.toNat 0), a + gvn (xs.getD a.toNat 0), 0)
theorem sub_at (xs : List Int) (a m j : Nat) (h : j < m) : ((xs.drop a).take m).getD j 0 = xs.getD (a + j) 0 := by simp [List.getD, h]
theorem sub_length (xs : List Int) (a m : Nat) (h : a + m ≤ xs.length) : ((xs.drop a).take m).length = m := by rw [List.length_take, List.length_drop]; omega
theorem gv_form (x : Int) (h0 : 0 ≤ x) (h1 : x < 256) : (x / 64 = 0 ∧ gvn x = 1 ∧ gvm x = 64) ∨ (x / 64 = 1 ∧ gvn x = 2 ∧ gvm x = 16384) ∨ (x / 64 = 2 ∧ gvn x = 4 ∧ gvm x = 1073741824) ∨ (x / 64 = 3 ∧ gvn x = 8 ∧ gvm x = 4611686018427387904) := by
  have : x / 64 = 0 ∨ x / 64 = 1 ∨ x / 64 = 2 ∨ x / 64 = 3 := by omega
  rcases this with h | h | h | h
  · exact Or.inl ⟨h, by unfold gvn; rw [if_pos h], by unfold gvm; rw [if_pos h]⟩
  · exact Or.inr (Or.inl ⟨h, by unfold gvn; rw [if_neg (by omega), if_pos h], by unfold gvm; rw [if_neg (by omega), if_pos h]⟩)
  · exact Or.inr (Or.inr (Or.inl ⟨h, by unfold gvn; rw [if_neg (by omega), if_neg (by omega), if_pos h], by unfold gvm; rw [if_neg (by omega), if_neg (by omega), if_pos h]⟩))
  · exact Or.inr (Or.inr (Or.inr ⟨h, by unfold gvn; rw [if_neg (by omega), if_neg (by omega), if_neg (by omega)], by unfold gvm; rw [if_neg (by omega), if_neg (by omega), if_neg (by omega)]⟩))
theorem gvn_bd (x : Int) : 1 ≤ gvn x ∧ gvn x ≤ 8 := by
  unfold gvn; split <;> (try split) <;> (try split) <;> omega
theorem gv_short (xs : List Int) (i : Nat) (h : xs.length ≤ 65536) (hi : i < xs.length) (hs : xs.length < i + gvn (xs.getD i 0)) : gv xs i = (0, 0, 2) := by
  unfold gv
  rw [if_neg (by omega), if_neg (by omega), if_neg (by omega), Int.toNat_natCast, if_pos hs]
theorem gv_ok (xs : List Int) (i : Nat) (h : xs.length ≤ 65536) (hi : i < xs.length) (hs : i + gvn (xs.getD i 0) ≤ xs.length) :
    gv xs i = (vals ((xs.drop i).take (gvn (xs.getD i 0))) % gvm (xs.getD i 0), (i : Int) + gvn (xs.getD i 0), 0) := by
  unfold gv
  rw [if_neg (by omega), if_neg (by omega), if_neg (by omega), Int.toNat_natCast, if_neg (by omega)]
end Go.Proofs.YtdommkpeilmdnaaDoor
