import Derived.Test.YtkpmdcmgcdnpfaaHeadS
namespace Go.Proofs.Ytkpmdcmgcdnpfaa
open Go.RowKit
set_option linter.unusedVariables false

/-- The token of an id. -/
def tokV (ks cs : List Int) : List Int := (digV ks cs).take 8
theorem tokV_length (ks cs : List Int) : (tokV ks cs).length = 8 := by simp [tokV, digV_length]
end Go.Proofs.Ytkpmdcmgcdnpfaa
