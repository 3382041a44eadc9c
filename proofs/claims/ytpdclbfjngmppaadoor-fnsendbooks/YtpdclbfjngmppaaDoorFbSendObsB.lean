import Derived.Test.YtpdclbfjngmppaaDoorFlatB
namespace Go.Proofs.YtpdclbfjngmppaaDoor
open Go.RowKit
set_option linter.unusedVariables false

/-- SendObs: its numbers and bytes. -/
structure SSendObs where
  f0 : Int
  f1 : Int
  f2 : Int
  f3 : List Int
  f4 : Bool
  f5 : Bool
  f6 : Bool
instance : Inhabited SSendObs := ⟨⟨0, 0, 0, [], false, false, false⟩⟩
def SSendObs.c (e : SSendObs) (u : Value) : List Value := [.int .i64 e.f0, .int .i64 e.f1, .int .i64 e.f2, u, .bool e.f4, .bool e.f5, .bool e.f6]
abbrev SSendObs.d (e : SSendObs) : List Int := e.f3
theorem infoSendObs : (Tryd.prog.info? 30).map (fun i => (i.zero, i.size, i.bytes)) = some (some (.agg #[.int .i64 0, .int .i64 0, .int .i64 0, .slice none 0 0, .bool false, .bool false, .bool false]), 7, 56) := by kernel_rfl
end Go.Proofs.YtpdclbfjngmppaaDoor
