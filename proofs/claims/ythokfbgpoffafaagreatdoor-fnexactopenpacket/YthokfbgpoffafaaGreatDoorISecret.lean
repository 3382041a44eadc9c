import Derived.Test.YthokfbgpoffafaaGreatDoorIInner
import Derived.Test.YthokfbgpoffafaaGreatDoorAppRow
import Derived.Test.YthokfbgpoffafaaGreatDoorNextKeys
namespace Go.Proofs.YthokfbgpoffafaaGreatDoor
open Go.RowKit
set_option linter.unusedVariables false

theorem der_len (ss : List Int) (s : ByteArray) (n : Nat) (h : ss.length = 16) (hs : s.size ≤ 32) (h0 : 1 ≤ n) (h1 : n ≤ 64) : (derV ss s n).length = n := by
  have e : derV ss s n = drvV ss (lab s) (n : Int).toNat := if_pos ⟨h, hs, by omega, by omega⟩
  rw [e, Int.toNat_natCast, drvV_length _ _ _ h1]
theorem keysV_kok (ss : List Int) (h : ss.length = 16) : kok (keysV ss) := by
  have e : keysV ss = ⟨ss, derV ss lKey 16, derV ss lIv 8, derV ss lMask 16⟩ := if_pos h
  rw [e]
  exact ⟨h, der_len ss lKey 16 h (by decide) (by decide) (by decide), der_len ss lIv 8 h (by decide) (by decide) (by decide), der_len ss lMask 16 h (by decide) (by decide) (by decide)⟩
/-- innerOfSecret's blocks behind j parts. -/
abbrev BkS (h : Nat) (k : K4) (j : Nat) : List (Nat × Obj) := [(h + 1, .cells (u8s (inS k j)).toArray 119 (0, 0)), (h, Z56)]

end Go.Proofs.YthokfbgpoffafaaGreatDoor
