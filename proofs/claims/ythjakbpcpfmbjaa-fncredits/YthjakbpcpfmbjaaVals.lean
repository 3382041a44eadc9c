import Derived.Test.YthjakbpcpfmbjaaMem
import Derived.Lib.EndianBits
namespace Go.Proofs.Ythjakbpcpfmbjaa
open Go.RowKit
set_option linter.unusedVariables false

/-- Bytes, each from 0 to 255. -/
def Bytes (xs : List Int) : Prop := ∀ x ∈ xs, 0 ≤ x ∧ x < 256
theorem bytes_of_wf {xs : List Int} (h : ∀ x ∈ xs, (Lit.int .u8 x).wf = true) : Bytes xs := by
  intro x hx
  have := h x hx
  have : 0 ≤ x ∧ x ≤ 255 := by simpa [Lit.wf, IntKind.min, IntKind.max, IntKind.signed, IntKind.bits] using this
  omega
theorem Bytes.at {xs : List Int} (h : Bytes xs) (j : Nat) : 0 ≤ xs.getD j 0 ∧ xs.getD j 0 < 256 := by
  by_cases hj : j < xs.length
  · have := h (xs[j]) (List.getElem_mem hj)
    simpa [List.getD, hj] using this
  · rw [List.getD, List.getElem?_eq_none (by omega)]; decide
theorem Bytes.take {xs : List Int} (h : Bytes xs) (n : Nat) : Bytes (xs.take n) := fun x hx => h x (List.mem_of_mem_take hx)
theorem Bytes.drop {xs : List Int} (h : Bytes xs) (n : Nat) : Bytes (xs.drop n) := fun x hx => h x (List.mem_of_mem_drop hx)

/-- The number that bytes tell, the highest first. -/
def vals (xs : List Int) : Int := xs.foldl (fun a x => a * 256 + x) 0

theorem fold_ge (xs : List Int) : ∀ a : Int, 0 ≤ a → Bytes xs → a ≤ xs.foldl (fun a x => a * 256 + x) a := by
  induction xs with
  | nil => intro a _ _; exact Int.le_refl a
  | cons x xs ih =>
    intro a h0 hb
    have hx := hb x (by simp)
    have := ih (a * 256 + x) (by omega) (fun y hy => hb y (by simp [hy]))
    simp only [List.foldl_cons]
    omega
theorem vals_nonneg (xs : List Int) (hb : Bytes xs) : 0 ≤ vals xs := fold_ge xs 0 (by decide) hb
theorem vals_take_le (xs : List Int) (hb : Bytes xs) (k : Nat) : vals (xs.take k) ≤ vals xs := by
  have e : vals xs = (xs.drop k).foldl (fun a x => a * 256 + x) (vals (xs.take k)) := by
    unfold vals
    rw [← List.foldl_append, List.take_append_drop]
  rw [e]
  exact fold_ge _ _ (vals_nonneg _ (hb.take k)) (hb.drop k)
theorem vals_snoc (xs : List Int) (k : Nat) (h : k < xs.length) : vals (xs.take (k + 1)) = vals (xs.take k) * 256 + xs.getD k 0 := by
  have e : xs.getD k 0 = xs[k] := by simp [List.getD, h]
  rw [e, List.take_succ_eq_append_getElem h]
  unfold vals
  rw [List.foldl_append]
  rfl
theorem vals_lt (xs : List Int) (hb : Bytes xs) : vals xs < 256 ^ xs.length := by
  have : ∀ k, k ≤ xs.length → vals (xs.take k) < 256 ^ k := by
    intro k
    induction k with
    | zero => intro _; simp [vals]
    | succ k ih =>
      intro hk
      have h1 := ih (by omega)
      have h2 := hb.at k
      rw [vals_snoc xs k (by omega), Int.pow_succ]
      omega
  have h := this xs.length (Nat.le_refl _)
  rwa [List.take_length] at h
theorem vals_take_lt7 (xs : List Int) (hb : Bytes xs) (k : Nat) (hk : k ≤ 7) : vals (xs.take k) < 72057594037927936 := by
  have h := vals_lt (xs.take k) (hb.take k)
  have hl : (xs.take k).length ≤ 7 := by rw [List.length_take]; omega
  have hn : (256 : Nat) ^ (xs.take k).length ≤ 256 ^ 7 := Nat.pow_le_pow_right (by decide) hl
  generalize (xs.take k).length = m at h hn
  have e1 : ((256 ^ m : Nat) : Int) = (256 : Int) ^ m := Int.natCast_pow 256 m
  have e : (256 : Nat) ^ 7 = 72057594037927936 := by decide
  rw [e] at hn
  rw [← e1] at h
  omega

theorem or_swap (k : IntKind) (x y : Int) : bits .or k x y = bits .or k y x := by
  simp only [bits, BitVec.or_comm]
theorem or_low (a c : Int) (h0 : 0 ≤ a) (h1 : a < 72057594037927936) (hc : 0 ≤ c) (hc' : c < 256) : bits .or .u64 (a * 256) c = a * 256 + c := by
  rw [or_swap, u64_or8 _ _ hc hc' (by omega) (by omega) (by omega)]
  omega

end Go.Proofs.Ythjakbpcpfmbjaa
