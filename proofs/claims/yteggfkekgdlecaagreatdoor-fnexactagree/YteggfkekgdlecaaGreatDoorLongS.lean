import Derived.Test.YteggfkekgdlecaaGreatDoorPartsB
import Derived.Test.YteggfkekgdlecaaGreatDoorDigits
import Derived.Test.YteggfkekgdlecaaGreatDoorAppRow
namespace Go.Proofs.YteggfkekgdlecaaGreatDoor
open Go.RowKit
set_option linter.unusedVariables false

/-- A version, and both ids with their lengths ahead. -/
def idsV (v : Int) (d s : List Int) : List Int := (((be v 4 ++ [(d.length : Int)]) ++ d) ++ [(s.length : Int)]) ++ s
theorem idsV_length (v : Int) (d s : List Int) : (idsV v d s).length = 6 + d.length + s.length := by simp [idsV, be_length]; omega
theorem wrap8 (n : Nat) (h : n ≤ 8) : IntKind.u8.wrap (n : Int) = (n : Int) := by rw [IntKind.wrap_u8]; omega
end Go.Proofs.YteggfkekgdlecaaGreatDoor
