import Derived.Test.YtmaoajadcgoopaaPfM
namespace Go.Proofs.Ytmaoajadcgoopaa
open Go.RowKit
set_option linter.unusedVariables false

def pOK (v k h : Int) : Prop := 0 ≤ v ∧ v ≤ 4611686018427387903 ∧ 1 ≤ k ∧ k ≤ 8 ∧ 0 ≤ h ∧ h ≤ 255
end Go.Proofs.Ytmaoajadcgoopaa
