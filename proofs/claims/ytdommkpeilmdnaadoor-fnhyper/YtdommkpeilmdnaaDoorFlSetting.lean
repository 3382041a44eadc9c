import Derived.Test.YtdommkpeilmdnaaDoorFlat
namespace Go.Proofs.YtdommkpeilmdnaaDoor
open Go.RowKit
set_option linter.unusedVariables false

/-- Setting: its numbers. -/
structure SSetting where
  f0 : Int
  f1 : Int
instance : Inhabited SSetting := ⟨⟨0, 0⟩⟩
def SSetting.c (e : SSetting) : List Value := [.int .i64 e.f0, .int .i64 e.f1]
abbrev SSetting.L (L : List SSetting) : List (List Value) := L.map SSetting.c
theorem SSetting.at (L : List SSetting) (j : Nat) (h : j < L.length) : (SSetting.L L).getD j [] = (L.getD j default).c := map_at _ L default j h
theorem infoSetting : (Tryd.prog.info? 62).map (fun i => (i.zero, i.size, i.bytes)) = some (some (.agg #[.int .i64 0, .int .i64 0]), 2, 16) := by kernel_rfl
/-- What markSettingS writes. -/
def marksSetting (q : Int) (n : Nat) : List (List Value) := (List.range n).map fun (j : Nat) => [.int .i64 (q + 2 * (j : Int)), .int .i64 (q + 2 * (j : Int) + 1)]
theorem marksSetting_length (q : Int) (n : Nat) : (marksSetting q n).length = n := by simp [marksSetting]
theorem marksSetting_at (q : Int) (n j : Nat) (h : j < n) : (marksSetting q n).getD j [] = [.int .i64 (q + 2 * (j : Int)), .int .i64 (q + 2 * (j : Int) + 1)] := by simp [marksSetting, List.getD, h]
end Go.Proofs.YtdommkpeilmdnaaDoor
