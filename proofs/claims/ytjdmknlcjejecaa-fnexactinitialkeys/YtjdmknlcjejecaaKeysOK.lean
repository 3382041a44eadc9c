import Derived.Test.YtjdmknlcjejecaaKeys
namespace Go.Proofs.Ytjdmknlcjejecaa
open Go.RowKit
set_option linter.unusedVariables false

/-- Keys that are valid. -/
def kok (k : K4) : Prop := k.a.length = 16 ∧ k.b.length = 16 ∧ k.c.length = 8 ∧ k.d.length = 16
end Go.Proofs.Ytjdmknlcjejecaa
