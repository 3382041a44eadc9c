import Derived.Test.YtjdmknlcjejecaaKeysOK
import Derived.Test.YtjdmknlcjejecaaKeysOf
namespace Go.Proofs.Ytjdmknlcjejecaa
open Go.RowKit
set_option linter.unusedVariables false

/-- The keys behind these. -/
def nxtK (k : K4) : K4 := ⟨derV k.a lNext 16, derV (derV k.a lNext 16) lKey 16, derV (derV k.a lNext 16) lIv 8, k.d⟩
theorem next_len (k : K4) (h : kok k) : (derV k.a lNext 16).length = 16 := by
  unfold derV
  rw [if_pos ⟨h.1, by decide, by decide, by decide⟩]
  exact drvV_length _ _ _ (by decide)
end Go.Proofs.Ytjdmknlcjejecaa
