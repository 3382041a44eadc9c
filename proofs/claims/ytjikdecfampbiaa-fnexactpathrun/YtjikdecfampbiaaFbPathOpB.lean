import Derived.Test.YtjikdecfampbiaaFlatB
namespace Go.Proofs.Ytjikdecfampbiaa
open Go.RowKit
set_option linter.unusedVariables false

/-- PathOp: its numbers and bytes. -/
structure SPathOp where
  f0 : Int
  f1 : Int
  f2 : Int
  f3 : List Int
instance : Inhabited SPathOp := ⟨⟨0, 0, 0, []⟩⟩
def SPathOp.c (e : SPathOp) (u : Value) : List Value := [.int .i64 e.f0, .int .i64 e.f1, .int .i64 e.f2, u]
abbrev SPathOp.d (e : SPathOp) : List Int := e.f3
theorem infoPathOp : (Try.prog.info? 43).map (fun i => (i.zero, i.size, i.bytes)) = some (some (.agg #[.int .i64 0, .int .i64 0, .int .i64 0, .slice none 0 0]), 4, 48) := by kernel_rfl
end Go.Proofs.Ytjikdecfampbiaa
