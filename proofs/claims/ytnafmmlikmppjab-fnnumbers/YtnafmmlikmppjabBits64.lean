import Derived.Test.YtnafmmlikmppjabMem
import Derived.Lib.EndianBits
namespace Go.Proofs.Ytnafmmlikmppjab
open Go.RowKit
set_option linter.unusedVariables false

theorem and_msk (n k : Nat) (hn : n < 18446744073709551616) (hk : k ≤ 63) : bits .and .u64 (n : Int) ((2 ^ k - 1 : Nat) : Int) = ((n % 2 ^ k : Nat) : Int) := by
  have h2 : 2 ^ k - 1 < 18446744073709551616 := by
    have : 2 ^ k ≤ 2 ^ 63 := Nat.pow_le_pow_right (by decide) hk
    have e : (2 : Nat) ^ 63 = 9223372036854775808 := by decide
    omega
  have hm : n % 2 ^ k < 18446744073709551616 := Nat.lt_of_le_of_lt (Nat.mod_le _ _) hn
  have e1 : (BitVec.ofInt IntKind.u64.bits (n : Int)).toNat = n := by
    show (BitVec.ofInt 64 (n : Int)).toNat = n
    rw [BitVec.ofInt_natCast, BitVec.toNat_ofNat]
    exact Nat.mod_eq_of_lt hn
  have e2 : (BitVec.ofInt IntKind.u64.bits ((2 ^ k - 1 : Nat) : Int)).toNat = 2 ^ k - 1 := by
    show (BitVec.ofInt 64 ((2 ^ k - 1 : Nat) : Int)).toNat = 2 ^ k - 1
    rw [BitVec.ofInt_natCast, BitVec.toNat_ofNat]
    exact Nat.mod_eq_of_lt h2
  show IntKind.u64.wrap (((BitVec.ofInt IntKind.u64.bits (n : Int)) &&& (BitVec.ofInt IntKind.u64.bits ((2 ^ k - 1 : Nat) : Int))).toNat : Int) = _
  rw [BitVec.toNat_and, e1, e2, Nat.and_two_pow_sub_one_eq_mod]
  generalize n % 2 ^ k = m at hm
  simp [IntKind.wrap, IntKind.bits, IntKind.signed]
  omega
theorem msk_of (s m : Int) (k : Nat) (h0 : 0 ≤ s) (h1 : s < 18446744073709551616) (hk : k ≤ 63) (hm : m = ((2 ^ k - 1 : Nat) : Int)) : bits .and .u64 s m = s % ((2 ^ k : Nat) : Int) := by
  obtain ⟨n, rfl⟩ := Int.eq_ofNat_of_zero_le h0
  subst hm
  rw [and_msk n k (by omega) hk]
  exact Int.natCast_emod n (2 ^ k)
theorem nat_andNot (n k : Nat) (hn : n < 18446744073709551616) (hk : k ≤ 63) : (BitVec.ofNat 64 n &&& ~~~ (BitVec.ofNat 64 (2 ^ k - 1))).toNat = n - n % 2 ^ k := by
  have hp : 2 ^ k ≤ 2 ^ 63 := Nat.pow_le_pow_right (by decide) hk
  have e63 : (2 : Nat) ^ 63 = 9223372036854775808 := by decide
  obtain ⟨x, hx⟩ : ∃ x, x = BitVec.ofNat 64 n := ⟨_, rfl⟩
  obtain ⟨m, hm⟩ : ∃ m, m = BitVec.ofNat 64 (2 ^ k - 1) := ⟨_, rfl⟩
  rw [← hx, ← hm]
  have hxn : x.toNat = n := by rw [hx, BitVec.toNat_ofNat]; exact Nat.mod_eq_of_lt hn
  have hmn : m.toNat = 2 ^ k - 1 := by rw [hm, BitVec.toNat_ofNat]; exact Nat.mod_eq_of_lt (by omega)
  have hand : (x &&& m).toNat = n % 2 ^ k := by rw [BitVec.toNat_and, hxn, hmn, Nat.and_two_pow_sub_one_eq_mod]
  have hz : (x &&& ~~~ m) &&& (x &&& m) = 0#64 := by
    ext i hi
    simp only [BitVec.getElem_and, BitVec.getElem_not, BitVec.getElem_zero]
    cases x[i] <;> cases m[i] <;> rfl
  have ho : (x &&& ~~~ m) ||| (x &&& m) = x := by
    ext i hi
    simp only [BitVec.getElem_and, BitVec.getElem_not, BitVec.getElem_or]
    cases x[i] <;> cases m[i] <;> rfl
  have hs : (x &&& ~~~ m) + (x &&& m) = x := by rw [BitVec.add_eq_or_of_and_eq_zero _ _ hz, ho]
  have hle : (x &&& ~~~ m).toNat ≤ n := by rw [BitVec.toNat_and, hxn]; exact Nat.and_le_left
  have h2 := congrArg BitVec.toNat hs
  rw [BitVec.toNat_add, hand, hxn] at h2
  have h3 : n % 2 ^ k < 2 ^ k := Nat.mod_lt _ (Nat.two_pow_pos k)
  have h4 : n % 2 ^ k ≤ n := Nat.mod_le _ _
  generalize (x &&& ~~~ m).toNat = y at *
  have e64 : (2 : Nat) ^ 64 = 18446744073709551616 := by decide
  rw [e64] at h2
  omega
theorem andNot_of (s m : Int) (k : Nat) (h0 : 0 ≤ s) (h1 : s < 18446744073709551616) (hk : k ≤ 63) (hm : m = ((2 ^ k - 1 : Nat) : Int)) : bits .andNot .u64 s m = s - s % ((2 ^ k : Nat) : Int) := by
  obtain ⟨n, rfl⟩ := Int.eq_ofNat_of_zero_le h0
  subst hm
  have h := nat_andNot n k (by omega) hk
  have hl : n % 2 ^ k ≤ n := Nat.mod_le _ _
  have e : bits .andNot .u64 (n : Int) ((2 ^ k - 1 : Nat) : Int) = IntKind.u64.wrap ((BitVec.ofNat 64 n &&& ~~~ (BitVec.ofNat 64 (2 ^ k - 1))).toNat : Int) := by
    show IntKind.u64.wrap (((BitVec.ofInt 64 (n : Int)) &&& ~~~ (BitVec.ofInt 64 ((2 ^ k - 1 : Nat) : Int))).toNat : Int) = _
    rw [BitVec.ofInt_natCast, BitVec.ofInt_natCast]
  rw [e]
  rw [h, ← Int.natCast_emod]
  generalize n % 2 ^ k = m at hl
  simp [IntKind.wrap, IntKind.bits, IntKind.signed]
  omega
theorem or_of (s c : Int) (k : Nat) (h0 : 0 ≤ s) (h1 : s < 18446744073709551616) (hs : s % 2 ^ k = 0) (hc0 : 0 ≤ c) (hc1 : c < 2 ^ k) (hc2 : c < 18446744073709551616) : bits .or .u64 s c = s + c :=
  bits_join .u64 64 (by decide) wraps_u64 k s c h0 hs (by omega) hc0 hc1 (by omega)
end Go.Proofs.Ytnafmmlikmppjab
