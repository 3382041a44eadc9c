import Derived.Test.YtgkljhkmigapmaaFlat
namespace Go.Proofs.Ytgkljhkmigapmaa
open Go.RowKit
set_option linter.unusedVariables false

/-- Waiting: its numbers. -/
structure SWaiting where
  f0 : Int
  f1 : Int
  f2 : Int
  f3 : Bool
instance : Inhabited SWaiting := ⟨⟨0, 0, 0, false⟩⟩
def SWaiting.c (e : SWaiting) : List Value := [.int .i64 e.f0, .int .i64 e.f1, .int .i64 e.f2, .bool e.f3]
abbrev SWaiting.L (L : List SWaiting) : List (List Value) := L.map SWaiting.c
theorem SWaiting.at (L : List SWaiting) (j : Nat) (h : j < L.length) : (SWaiting.L L).getD j [] = (L.getD j default).c := map_at _ L default j h
theorem infoWaiting : (Try.prog.info? 27).map (fun i => (i.zero, i.size, i.bytes)) = some (some (.agg #[.int .i64 0, .int .i64 0, .int .i64 0, .bool false]), 4, 32) := by kernel_rfl
/-- What markWaitingS writes. -/
def marksWaiting (q : Int) (n : Nat) : List (List Value) := (List.range n).map fun (j : Nat) => [.int .i64 (q + 4 * (j : Int)), .int .i64 (q + 4 * (j : Int) + 1), .int .i64 (q + 4 * (j : Int) + 2), .bool ((q + 4 * (j : Int) + 3) % 3 == 0)]
theorem marksWaiting_length (q : Int) (n : Nat) : (marksWaiting q n).length = n := by simp [marksWaiting]
theorem marksWaiting_at (q : Int) (n j : Nat) (h : j < n) : (marksWaiting q n).getD j [] = [.int .i64 (q + 4 * (j : Int)), .int .i64 (q + 4 * (j : Int) + 1), .int .i64 (q + 4 * (j : Int) + 2), .bool ((q + 4 * (j : Int) + 3) % 3 == 0)] := by simp [marksWaiting, List.getD, h]
end Go.Proofs.Ytgkljhkmigapmaa
