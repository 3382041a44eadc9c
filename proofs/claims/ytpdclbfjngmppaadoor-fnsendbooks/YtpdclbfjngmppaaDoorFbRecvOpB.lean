import Derived.Test.YtpdclbfjngmppaaDoorFlatB
namespace Go.Proofs.YtpdclbfjngmppaaDoor
open Go.RowKit
set_option linter.unusedVariables false

/-- RecvOp: its numbers and bytes. -/
structure SRecvOp where
  f0 : Int
  f1 : Int
  f2 : Int
  f3 : List Int
  f4 : Bool
instance : Inhabited SRecvOp := ⟨⟨0, 0, 0, [], false⟩⟩
def SRecvOp.c (e : SRecvOp) (u : Value) : List Value := [.int .i64 e.f0, .int .i64 e.f1, .int .i64 e.f2, u, .bool e.f4]
abbrev SRecvOp.d (e : SRecvOp) : List Int := e.f3
end Go.Proofs.YtpdclbfjngmppaaDoor
