import Derived.Test.YthjakbpcpfmbjaaFlat
namespace Go.Proofs.Ythjakbpcpfmbjaa
open Go.RowKit
set_option linter.unusedVariables false

/-- FlowOp: its numbers. -/
structure SFlowOp where
  f0 : Int
  f1 : Int
  f2 : Int
  f3 : Bool
instance : Inhabited SFlowOp := ⟨⟨0, 0, 0, false⟩⟩
def SFlowOp.c (e : SFlowOp) : List Value := [.int .i64 e.f0, .int .i64 e.f1, .int .i64 e.f2, .bool e.f3]
abbrev SFlowOp.L (L : List SFlowOp) : List (List Value) := L.map SFlowOp.c
theorem SFlowOp.at (L : List SFlowOp) (j : Nat) (h : j < L.length) : (SFlowOp.L L).getD j [] = (L.getD j default).c := map_at _ L default j h
theorem infoFlowOp : (Try.prog.info? 32).map (fun i => (i.zero, i.size, i.bytes)) = some (some (.agg #[.int .i64 0, .int .i64 0, .int .i64 0, .bool false]), 4, 32) := by kernel_rfl
/-- What markFlowOpS writes. -/
def marksFlowOp (q : Int) (n : Nat) : List (List Value) := (List.range n).map fun (j : Nat) => [.int .i64 (q + 4 * (j : Int)), .int .i64 (q + 4 * (j : Int) + 1), .int .i64 (q + 4 * (j : Int) + 2), .bool ((q + 4 * (j : Int) + 3) % 3 == 0)]
theorem marksFlowOp_length (q : Int) (n : Nat) : (marksFlowOp q n).length = n := by simp [marksFlowOp]
theorem marksFlowOp_at (q : Int) (n j : Nat) (h : j < n) : (marksFlowOp q n).getD j [] = [.int .i64 (q + 4 * (j : Int)), .int .i64 (q + 4 * (j : Int) + 1), .int .i64 (q + 4 * (j : Int) + 2), .bool ((q + 4 * (j : Int) + 3) % 3 == 0)] := by simp [marksFlowOp, List.getD, h]
end Go.Proofs.Ythjakbpcpfmbjaa
