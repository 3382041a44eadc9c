import Derived.Test.YtocinjcbkolnhaaTcS
namespace Go.Proofs.Ytocinjcbkolnhaa
open Go.RowKit
set_option linter.unusedVariables false

def gDF (L : List SField) (i : Nat) : SField := L.getD i default
theorem g_outF (A : List SField) (i : Nat) (h : A.length ≤ i) : gDF A i = default := by simp [gDF, List.getD, List.getElem?_eq_none h]
theorem g_appendF (A B : List SField) (i : Nat) : gDF (A ++ B) i = if i < A.length then gDF A i else gDF B (i - A.length) := by
  by_cases h : i < A.length
  · rw [if_pos h]; simp [gDF, List.getD, List.getElem?_append_left h]
  · rw [if_neg h]; simp [gDF, List.getD, List.getElem?_append_right (show A.length ≤ i by omega)]
theorem g_takeF (A : List SField) (n i : Nat) : gDF (A.take n) i = if i < n then gDF A i else default := by
  by_cases h : i < n
  · rw [if_pos h]; simp [gDF, List.getD, List.getElem?_take_of_lt h]
  · rw [if_neg h]; exact g_outF _ _ (by simp; omega)
theorem g_dropF (A : List SField) (n i : Nat) : gDF (A.drop n) i = gDF A (n + i) := by simp [gDF, List.getD]
theorem g_repF (n i : Nat) : gDF (List.replicate n default) i = default := by
  simp only [gDF, List.getD, List.getElem?_replicate]; split <;> rfl
theorem cpL_gF (O L : List SField) (q r m i : Nat) (hr : r + m ≤ L.length) (hq : q + m ≤ O.length) : gDF (cpLF O L q r m) i = if q ≤ i ∧ i < q + m then gDF L (r + (i - q)) else gDF O i := by
  unfold cpLF
  rw [g_appendF, g_appendF, g_takeF, g_takeF, g_dropF, g_dropF]
  simp only [List.length_take, List.length_drop]
  by_cases h1 : i < q
  · rw [if_pos (by omega), if_pos h1, if_neg (by omega)]
  · rw [if_neg (by omega)]
    by_cases h2 : i < q + m
    · rw [if_pos (by omega), if_pos (by omega), if_pos (by omega)]
      congr 1; omega
    · rw [if_neg (by omega), if_neg (by omega)]
      congr 1; omega
theorem clL_gF (L : List SField) (r m i : Nat) (hr : r + m ≤ L.length) : gDF (clLF L r m) i = if r ≤ i ∧ i < r + m then default else gDF L i := by
  unfold clLF
  rw [g_appendF, g_appendF, g_takeF, g_dropF, g_repF]
  simp only [List.length_take, List.length_replicate]
  by_cases h1 : i < r
  · rw [if_pos (by omega), if_pos h1, if_neg (by omega)]
  · rw [if_neg (by omega)]
    by_cases h2 : i < r + m
    · rw [if_pos (by omega), if_pos (by omega)]
    · rw [if_neg (by omega), if_neg (by omega)]
      congr 1; omega
theorem shO_gF (L : List SField) (win first k i : Nat) (hL : L.length = win) (hw : 0 < win) (hk : k ≤ win) (hi : i < k) : gDF (shOF L (first % win) k (min k (win - first % win))) i = gDF L ((first + i) % win) := by
  have hm := Nat.mod_lt first hw
  unfold shOF
  rw [cpL_gF _ _ _ _ _ _ (by omega) (by rw [cpL_lengthF _ _ _ _ _ (by omega) (by simp; omega)]; simp; omega), cpL_gF _ _ _ _ _ _ (by omega) (by simp; omega)]
  have e : (first + i) % win = (first % win + i) % win := (Nat.mod_add_mod first win i).symm
  by_cases h : i < min k (win - first % win)
  · rw [if_neg (by omega), if_pos (by omega), e, Nat.mod_eq_of_lt (show first % win + i < win by omega)]
    congr 1
  · rw [if_pos (by omega), e, Nat.mod_eq_sub_mod (show win ≤ first % win + i by omega), Nat.mod_eq_of_lt (show first % win + i - win < win by omega)]
    congr 1; omega
theorem shL_gF (L : List SField) (win first k q : Nat) (hL : L.length = win) (hw : 0 < win) (hk : k ≤ win) (hq : q < win) : gDF (shLF L (first % win) k (min k (win - first % win))) q = if (∃ i, i < k ∧ (first + i) % win = q) then default else gDF L q := by
  have hm := Nat.mod_lt first hw
  unfold shLF
  rw [clL_gF _ _ _ _ (by rw [clL_lengthF _ _ _ (by omega)]; omega), clL_gF _ _ _ _ (by omega)]
  have e : ∀ i, (first + i) % win = (first % win + i) % win := fun i => (Nat.mod_add_mod first win i).symm
  by_cases h1 : q < k - min k (win - first % win)
  · rw [if_pos (by omega), if_pos ⟨win - first % win + q, by omega, by rw [e, Nat.mod_eq_sub_mod (show win ≤ first % win + (win - first % win + q) by omega), Nat.mod_eq_of_lt (show first % win + (win - first % win + q) - win < win by omega)]; omega⟩]
  · rw [if_neg (by omega)]
    by_cases h2 : first % win ≤ q ∧ q < first % win + min k (win - first % win)
    · rw [if_pos h2, if_pos ⟨q - first % win, by omega, by rw [e, Nat.mod_eq_of_lt (show first % win + (q - first % win) < win by omega)]; omega⟩]
    · rw [if_neg h2, if_neg]
      rintro ⟨i, hi, he⟩
      rw [e] at he
      by_cases h3 : first % win + i < win
      · rw [Nat.mod_eq_of_lt h3] at he; omega
      · rw [Nat.mod_eq_sub_mod (show win ≤ first % win + i by omega), Nat.mod_eq_of_lt (show first % win + i - win < win by omega)] at he; omega
theorem shL_lengthF (L : List SField) (win first k : Nat) (hL : L.length = win) (hw : 0 < win) (hk : k ≤ win) : (shLF L (first % win) k (min k (win - first % win))).length = win := by
  have hm := Nat.mod_lt first hw
  unfold shLF
  rw [clL_lengthF _ _ _ (by rw [clL_lengthF _ _ _ (by omega)]; omega), clL_lengthF _ _ _ (by omega), hL]
end Go.Proofs.Ytocinjcbkolnhaa
