import Derived.Test.YthokfbgpoffafaaGreatDoorTag
import Derived.Test.YthokfbgpoffafaaGreatDoorKeysOK
import Derived.Deep.CutRange
namespace Go.Proofs.YthokfbgpoffafaaGreatDoor
open Go.RowKit
set_option linter.unusedVariables false

/-- The nonce of a number. -/
def nonV (k : K4) (num : Int) : List Int := xl k.c (be num 8) k.c.length
/-- A text with the stream laid over it. -/
def overV (k : K4) (num : Int) (xs : List Int) : List Int := xl xs (sblk k.b (nonV k num) ((xs.length + 15) / 16)) xs.length
def sealV (k : K4) (num : Int) (hd bd : List Int) : List Int := overV k num bd ++ tagV k.b (nonV k num) hd (overV k num bd)
theorem nonV_length (k : K4) (num : Int) : (nonV k num).length = k.c.length := xl_length _ _ _
theorem overV_length (k : K4) (num : Int) (xs : List Int) : (overV k num xs).length = xs.length := xl_length _ _ _
theorem sealV_length (k : K4) (num : Int) (hd bd : List Int) : (sealV k num hd bd).length = bd.length + 8 := by unfold sealV; rw [List.length_append, overV_length, tagV_length]

end Go.Proofs.YthokfbgpoffafaaGreatDoor
