import Derived.Test.YtpdclbfjngmppaaDoorFlatB
namespace Go.Proofs.YtpdclbfjngmppaaDoor
open Go.RowKit
set_option linter.unusedVariables false

/-- SendOp: its numbers and bytes. -/
structure SSendOp where
  f0 : Int
  f1 : Int
  f2 : Int
  f3 : List Int
  f4 : Bool
instance : Inhabited SSendOp := ⟨⟨0, 0, 0, [], false⟩⟩
def SSendOp.c (e : SSendOp) (u : Value) : List Value := [.int .i64 e.f0, .int .i64 e.f1, .int .i64 e.f2, u, .bool e.f4]
abbrev SSendOp.d (e : SSendOp) : List Int := e.f3
theorem infoSendOp : (Tryd.prog.info? 32).map (fun i => (i.zero, i.size, i.bytes)) = some (some (.agg #[.int .i64 0, .int .i64 0, .int .i64 0, .slice none 0 0, .bool false]), 5, 56) := by kernel_rfl
end Go.Proofs.YtpdclbfjngmppaaDoor
