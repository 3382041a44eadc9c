import Derived.Test.YtkpmdcmgcdnpfaaKeysOK
import Derived.Test.YtkpmdcmgcdnpfaaKeysOf
import Derived.Test.YtkpmdcmgcdnpfaaBook
namespace Go.Proofs.Ytkpmdcmgcdnpfaa
open Go.RowKit
set_option linter.unusedVariables false

theorem hm_cap {w : World} {base g cap n : Nat} {xs : List Value} (h : w.ownsRow base 5 1 (.slice (some ⟨g, 0, none⟩) n cap) n xs) : n ≤ cap ∧ cap ≤ 9223372036854775807 := by
  rcases h.2 with ⟨e, _⟩ | ⟨g', cap', cur, e, _, _, h1, h2, _⟩
  · cases e
  · cases e; unfold maxLen at h2; omega
theorem hm_take {w : World} {base g cap m n : Nat} {xs : List Int} (h : w.ownsRow base 5 1 (.slice (some ⟨g, 0, none⟩) n cap) n (xs.map (Value.int .u8))) (hm : m ≤ n) : Row w .u8 (.slice (some ⟨g, 0, none⟩) m cap) (xs.take m) := by
  have hl : xs.length = n := by simpa using h.1
  have hcap : n ≤ cap ∧ cap ≤ maxLen := by
    rcases h.2 with ⟨e, _⟩ | ⟨g', cap', cur, e, _, _, h1, h2, _⟩
    · cases e
    · cases e; exact ⟨h1, h2⟩
  have hlt : g < w.heap.size := (h.lt g rfl).2
  have hc : ∀ j, j < xs.length → w.cell? ⟨g, 0 + j, none⟩ = some (.int .u8 (xs.getD j 0)) := by
    intro j hj
    have := h.cellAt j (by omega)
    rw [Nat.zero_add, this]
    simp [List.getD, hj]
  have := row_cut (at' := 0) (n := m) (cap' := cap) (cap := cap) hlt hc (by omega) ⟨by omega, hcap.2⟩
  simpa using this

/-- The mask of a sample. -/
def headV (k : K4) (ss : List Int) : List Int := (digV k.d ss).take 5
theorem headV_length (k : K4) (ss : List Int) : (headV k ss).length = 5 := by simp [headV, digV_length]
end Go.Proofs.Ytkpmdcmgcdnpfaa
