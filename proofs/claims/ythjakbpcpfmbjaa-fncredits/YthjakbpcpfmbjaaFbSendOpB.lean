import Derived.Test.YthjakbpcpfmbjaaFlatB
namespace Go.Proofs.Ythjakbpcpfmbjaa
open Go.RowKit
set_option linter.unusedVariables false

/-- SendOp: its numbers and bytes. -/
structure SSendOp where
  f0 : Int
  f1 : Int
  f2 : Int
  f3 : List Int
  f4 : Bool
instance : Inhabited SSendOp := ⟨⟨0, 0, 0, [], false⟩⟩
def SSendOp.c (e : SSendOp) (u : Value) : List Value := [.int .i64 e.f0, .int .i64 e.f1, .int .i64 e.f2, u, .bool e.f4]
abbrev SSendOp.d (e : SSendOp) : List Int := e.f3
end Go.Proofs.Ythjakbpcpfmbjaa
