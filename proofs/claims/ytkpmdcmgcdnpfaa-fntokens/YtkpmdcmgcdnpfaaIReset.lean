import Derived.Test.YtkpmdcmgcdnpfaaICids
import Derived.Test.YtkpmdcmgcdnpfaaIDigest
import Derived.Test.YtkpmdcmgcdnpfaaAppRow
import Derived.Test.YtkpmdcmgcdnpfaaResetS
namespace Go.Proofs.Ytkpmdcmgcdnpfaa
open Go.RowKit
set_option linter.unusedVariables false

theorem cids1 (n : Nat) (cs : List Int) (e : cs.length = n) : (decide (∀ j, j < ([cs] : List (List Int)).length → (([cs] : List (List Int)).getD j []).length ≤ 8)) = decide (n ≤ 8) := by
  rw [decide_eq_decide]
  constructor
  · intro h; have := h 0 (by simp); simpa [e] using this
  · intro h j hj
    obtain rfl : j = 0 := by simp at hj; omega
    simpa [e] using h
theorem cids1_len (cs : List Int) (h : cs.length ≤ 9223372036854775807) (j : Nat) : (([cs] : List (List Int)).getD j []).length ≤ 9223372036854775807 := by
  match j with
  | 0 => exact h
  | n + 1 => simp [List.getD]
theorem row_parta {w : World} {g t off n c : Nat} {fr : Nat × Nat} {xs : List Int} (h : w.heap[g]? = some (.cells (u8s xs).toArray t fr)) (hn : off + n ≤ xs.length) (hc : n ≤ c) (hm : c ≤ maxLen) : Row w .u8 (.slice (some ⟨g, off, none⟩) n c) ((xs.drop off).take n) := by
  have := row_cut (w := w) (k := .u8) (xs := xs) (b := g) (off := 0) (cap := 0) (at' := off) (n := n) (cap' := c) (Array.getElem?_eq_some_iff.1 h).1 (fun j hj => ?_) hn ⟨hc, hm⟩
  · rwa [Nat.zero_add] at this
  · rw [Nat.zero_add, blkS_cell h]
    simp [u8s, List.getD, hj]
end Go.Proofs.Ytkpmdcmgcdnpfaa
