import Derived.Test.YtnafmmlikmppjabNumbersB1
import Derived.Test.YtnafmmlikmppjabNumbersB2
import Derived.Test.YtnafmmlikmppjabNumbersB3
import Derived.Test.YtnafmmlikmppjabNumbersB4
namespace Go.Proofs.Ytnafmmlikmppjab
open Go.RowKit
set_option linter.unusedVariables false

theorem fnNumbers_walk (v1 : Value) (xs : List Int) (v2 : Value) (ys : List Int) (len1 : xs.length ≤ maxLen) (wf1 : ∀ x ∈ xs, (Lit.int .u8 x).wf = true) (len2 : ys.length ≤ maxLen) (wf2 : ∀ x ∈ ys, (Lit.int .u8 x).wf = true) (w : World) (row1 : Row w .u8 v1 xs) (row2 : Row w .u8 v2 ys) :
    Calls Try.prog 3 #[v1, v2] w fun e w' => e = .returned (.bool true) ∧ Below w.heap.size w w' := by
  unfold maxLen at len1 len2
  by_cases h1 : xs.length ≤ 1048576
  · by_cases h2 : ys.length ≤ 1048576
    · obtain ⟨num, acked, bn, ba, D⟩ := drawNum v1 xs w row1 (bytes_of_wf wf1) h1
      have I := implNB num acked
      have S := specNB num acked
      by_cases h : num < 0 ∨ 4611686018427387903 < num ∨ acked < -1 ∨ num ≤ acked
      · rw [show nbV num acked = 0 by unfold nbV; rw [if_pos h]] at I S
        exact numbers_zero v1 v2 xs.length ys.length num acked w row1.form row2.form h1 h2 D I S
      · by_cases d1 : num - acked ≤ 128
        · rw [show nbV num acked = 1 by unfold nbV; rw [if_neg h, if_pos d1]] at I S
          exact numbers_1 v1 v2 xs.length ys num acked w row1.form h1 row2 (bytes_of_wf wf2) h2 D I S (by omega) (by omega) (by omega) (by omega) d1
        · by_cases d2 : num - acked ≤ 32768
          · rw [show nbV num acked = 2 by unfold nbV; rw [if_neg h, if_neg d1, if_pos d2]] at I S
            exact numbers_2 v1 v2 xs.length ys num acked w row1.form h1 row2 (bytes_of_wf wf2) h2 D I S (by omega) (by omega) (by omega) (by omega) d2
          · by_cases d3 : num - acked ≤ 8388608
            · rw [show nbV num acked = 3 by unfold nbV; rw [if_neg h, if_neg d1, if_neg d2, if_pos d3]] at I S
              exact numbers_3 v1 v2 xs.length ys num acked w row1.form h1 row2 (bytes_of_wf wf2) h2 D I S (by omega) (by omega) (by omega) (by omega) d3
            · by_cases d4 : num - acked ≤ 2147483648
              · rw [show nbV num acked = 4 by unfold nbV; rw [if_neg h, if_neg d1, if_neg d2, if_neg d3, if_pos d4]] at I S
                exact numbers_4 v1 v2 xs.length ys num acked w row1.form h1 row2 (bytes_of_wf wf2) h2 D I S (by omega) (by omega) (by omega) (by omega) d4
              · rw [show nbV num acked = 0 by unfold nbV; rw [if_neg h, if_neg d1, if_neg d2, if_neg d3, if_neg d4]] at I S
                exact numbers_zero v1 v2 xs.length ys.length num acked w row1.form row2.form h1 h2 D I S
    · obtain ⟨ao1, cap1, rfl⟩ := row1.form
      obtain ⟨ao2, cap2, rfl⟩ := row2.form
      exact numbers_long2 ao1 ao2 _ cap1 _ cap2 w h1 (by omega) (by omega)
  · obtain ⟨ao1, cap1, rfl⟩ := row1.form
    obtain ⟨ao2, cap2, rfl⟩ := row2.form
    exact numbers_long1 ao1 ao2 _ cap1 _ cap2 w (by omega) (by omega)
end Go.Proofs.Ytnafmmlikmppjab
