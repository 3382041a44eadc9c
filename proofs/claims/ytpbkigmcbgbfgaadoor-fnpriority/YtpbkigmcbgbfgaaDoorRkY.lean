import Derived.Test.YtpbkigmcbgbfgaaDoorRkX
namespace Go.Proofs.YtpbkigmcbgbfgaaDoor
open Go.RowKit
set_option linter.unusedVariables false

theorem ci_app (r : List UInt8) : ∀ o : List UInt8, ci (o ++ 44 :: r) = ci o
  | [] => rfl
  | x :: o => by
    rw [List.cons_append]
    simp only [ci]
    split
    · rfl
    · rw [ci_app r o]
theorem pa_app (r : List UInt8) : ∀ (n : Nat) (o : List UInt8) (s : Int × Bool), o.length ≤ n → (pa (o ++ 44 :: r).length (o ++ 44 :: r)).foldl stp s = (pa r.length r).foldl stp ((pa o.length o).foldl stp s) := by
  intro n
  induction n with
  | zero =>
    intro o s h
    obtain rfl : o = [] := List.eq_nil_of_length_eq_zero (by omega)
    rw [List.nil_append, pa_yes (44 :: r) (by simp [ci])]
    simp only [ci, if_true, List.take_zero, Nat.zero_add, List.drop_one, List.tail_cons, List.foldl_cons, stp_nil]
    rw [pa_nil]
    simp [stp_nil]
  | succ n ih =>
    intro o s h
    have hci := ci_app r o
    have hle := ci_le o
    have hlt : ci (o ++ 44 :: r) < (o ++ 44 :: r).length := by rw [hci]; simp; omega
    rw [pa_yes _ hlt, hci]
    by_cases hc : ci o < o.length
    · rw [pa_yes o hc]
      have e1 : (o ++ 44 :: r).take (ci o) = o.take (ci o) := List.take_append_of_le_length hle
      have e2 : (o ++ 44 :: r).drop (ci o + 1) = o.drop (ci o + 1) ++ 44 :: r := List.drop_append_of_le_length (by omega)
      rw [e1, e2]
      simp only [List.foldl_cons]
      exact ih _ _ (by rw [List.length_drop]; omega)
    · have ho : ci o = o.length := by omega
      rw [pa_not o hc, ho]
      have e1 : (o ++ 44 :: r).take o.length = o := List.take_left
      have e2 : (o ++ 44 :: r).drop (o.length + 1) = r := by rw [List.drop_append]; simp
      rw [e1, e2]
      rfl
/-- The text of an urgency. -/
def tx (u : Nat) (k : Bool) : List UInt8 := [117, 61, 48 + u.toUInt8] ++ if k then [44, 32, 105] else []
theorem tx_fold (u : Nat) (hu : u < 8) (k : Bool) (a : Int) (b : Bool) : (pa (tx u k).length (tx u k)).foldl stp (a, b) = ((u : Int), if k then true else b) := by
  obtain rfl | rfl | rfl | rfl | rfl | rfl | rfl | rfl : u = 0 ∨ u = 1 ∨ u = 2 ∨ u = 3 ∨ u = 4 ∨ u = 5 ∨ u = 6 ∨ u = 7 := by omega
  all_goals cases k <;> rfl
theorem tx_len (u : Nat) (k : Bool) : (tx u k).length = if k then 6 else 3 := by cases k <;> rfl
theorem tx_back (u : Nat) (hu : u < 8) (k : Bool) : rpV (tx u k) = ((u : Int), k) := by
  unfold rpV
  rw [if_neg (by rw [tx_len]; split <;> omega), tx_fold u hu]
  cases k <;> rfl
theorem tx_odd (o : List UInt8) (u : Nat) (hu : u < 8) (k : Bool) (hl : (o ++ [44, 32, 105, 61, 63, 48, 32, 44] ++ tx u k).length ≤ 1024) : rpV (o ++ [44, 32, 105, 61, 63, 48, 32, 44] ++ tx u k) = ((u : Int), k) := by
  unfold rpV
  rw [if_neg (by omega)]
  have e : o ++ [44, 32, 105, 61, 63, 48, 32, 44] ++ tx u k = o ++ 44 :: ([32, 105, 61, 63, 48, 32] ++ 44 :: tx u k) := by simp
  rw [e, pa_app _ _ o _ (Nat.le_refl _), pa_app _ _ [32, 105, 61, 63, 48, 32] _ (Nat.le_refl _)]
  obtain ⟨x, y⟩ := (pa o.length o).foldl stp (3, false)
  have e2 : (pa ([32, 105, 61, 63, 48, 32] : List UInt8).length [32, 105, 61, 63, 48, 32]).foldl stp (x, y) = (x, false) := rfl
  rw [e2, tx_fold u hu]
  cases k <;> rfl
theorem pt_tx (u : Nat) (hu : u < 8) (k : Bool) : ptV (u : Int) k = bl (tx u k) := by
  obtain rfl | rfl | rfl | rfl | rfl | rfl | rfl | rfl : u = 0 ∨ u = 1 ∨ u = 2 ∨ u = 3 ∨ u = 4 ∨ u = 5 ∨ u = 6 ∨ u = 7 := by omega
  all_goals cases k <;> rfl
theorem bl_app (a b : List UInt8) : bl a ++ bl b = bl (a ++ b) := by
  apply ByteArray.ext
  rw [ByteArray.data_append]
  simp [bl]
end Go.Proofs.YtpbkigmcbgbfgaaDoor
