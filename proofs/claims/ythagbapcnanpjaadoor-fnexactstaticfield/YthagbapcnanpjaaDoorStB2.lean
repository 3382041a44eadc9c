import Derived.Test.YthagbapcnanpjaaDoorStA
namespace Go.Proofs.YthagbapcnanpjaaDoor
open Go.RowKit
set_option linter.unusedVariables false

theorem ssS_12 (w : World) :
    Calls Tryd.prog 5 #[.int .i64 12] w fun e w' => e = .returned (.tuple #[.agg #[.string ⟨#[58, 115, 116, 97, 116, 117, 115]⟩, .string ⟨#[52, 48, 52]⟩], .int .i64 0]) ∧ Below w.heap.size w w' := by
  go_enter Tryd.func5, Tryd.ntmps5
  go_wp2
  go_region
  all_goals
    go_wp2
    refine bodyPost_ret (v := .tuple #[.agg #[.string ⟨#[58, 115, 116, 97, 116, 117, 115]⟩, .string ⟨#[52, 48, 52]⟩], .int .i64 0]) (by simp [results, Tryd.results5, go_sem]) rfl ?_
    first | exact ⟨rfl, (below_sss _ _ _ _).drew⟩ | exact ⟨rfl, below_sss _ _ _ _⟩
theorem ssS_13 (w : World) :
    Calls Tryd.prog 5 #[.int .i64 13] w fun e w' => e = .returned (.tuple #[.agg #[.string ⟨#[58, 115, 116, 97, 116, 117, 115]⟩, .string ⟨#[52, 48, 53]⟩], .int .i64 0]) ∧ Below w.heap.size w w' := by
  go_enter Tryd.func5, Tryd.ntmps5
  go_wp2
  go_region
  all_goals
    go_wp2
    refine bodyPost_ret (v := .tuple #[.agg #[.string ⟨#[58, 115, 116, 97, 116, 117, 115]⟩, .string ⟨#[52, 48, 53]⟩], .int .i64 0]) (by simp [results, Tryd.results5, go_sem]) rfl ?_
    first | exact ⟨rfl, (below_sss _ _ _ _).drew⟩ | exact ⟨rfl, below_sss _ _ _ _⟩
theorem ssS_14 (w : World) :
    Calls Tryd.prog 5 #[.int .i64 14] w fun e w' => e = .returned (.tuple #[.agg #[.string ⟨#[58, 115, 116, 97, 116, 117, 115]⟩, .string ⟨#[53, 48, 48]⟩], .int .i64 0]) ∧ Below w.heap.size w w' := by
  go_enter Tryd.func5, Tryd.ntmps5
  go_wp2
  go_region
  all_goals
    go_wp2
    refine bodyPost_ret (v := .tuple #[.agg #[.string ⟨#[58, 115, 116, 97, 116, 117, 115]⟩, .string ⟨#[53, 48, 48]⟩], .int .i64 0]) (by simp [results, Tryd.results5, go_sem]) rfl ?_
    first | exact ⟨rfl, (below_sss _ _ _ _).drew⟩ | exact ⟨rfl, below_sss _ _ _ _⟩
theorem ssS_15 (w : World) :
    Calls Tryd.prog 5 #[.int .i64 15] w fun e w' => e = .returned (.tuple #[.agg #[.string ⟨#[97, 99, 99, 101, 112, 116]⟩, .string ⟨#[42, 47, 42]⟩], .int .i64 0]) ∧ Below w.heap.size w w' := by
  go_enter Tryd.func5, Tryd.ntmps5
  go_wp2
  go_region
  all_goals
    go_wp2
    refine bodyPost_ret (v := .tuple #[.agg #[.string ⟨#[97, 99, 99, 101, 112, 116]⟩, .string ⟨#[42, 47, 42]⟩], .int .i64 0]) (by simp [results, Tryd.results5, go_sem]) rfl ?_
    first | exact ⟨rfl, (below_sss _ _ _ _).drew⟩ | exact ⟨rfl, below_sss _ _ _ _⟩
theorem ssS_16 (w : World) :
    Calls Tryd.prog 5 #[.int .i64 16] w fun e w' => e = .returned (.tuple #[.agg #[.string ⟨#[99, 111, 110, 116, 101, 110, 116, 45, 108, 101, 110, 103, 116, 104]⟩, .string ⟨#[48]⟩], .int .i64 0]) ∧ Below w.heap.size w w' := by
  go_enter Tryd.func5, Tryd.ntmps5
  go_wp2
  go_region
  all_goals
    go_wp2
    refine bodyPost_ret (v := .tuple #[.agg #[.string ⟨#[99, 111, 110, 116, 101, 110, 116, 45, 108, 101, 110, 103, 116, 104]⟩, .string ⟨#[48]⟩], .int .i64 0]) (by simp [results, Tryd.results5, go_sem]) rfl ?_
    first | exact ⟨rfl, (below_sss _ _ _ _).drew⟩ | exact ⟨rfl, below_sss _ _ _ _⟩
theorem ssS_17 (w : World) :
    Calls Tryd.prog 5 #[.int .i64 17] w fun e w' => e = .returned (.tuple #[.agg #[.string ⟨#[99, 111, 110, 116, 101, 110, 116, 45, 116, 121, 112, 101]⟩, .string ⟨#[116, 101, 120, 116, 47, 112, 108, 97, 105, 110]⟩], .int .i64 0]) ∧ Below w.heap.size w w' := by
  go_enter Tryd.func5, Tryd.ntmps5
  go_wp2
  go_region
  all_goals
    go_wp2
    refine bodyPost_ret (v := .tuple #[.agg #[.string ⟨#[99, 111, 110, 116, 101, 110, 116, 45, 116, 121, 112, 101]⟩, .string ⟨#[116, 101, 120, 116, 47, 112, 108, 97, 105, 110]⟩], .int .i64 0]) (by simp [results, Tryd.results5, go_sem]) rfl ?_
    first | exact ⟨rfl, (below_sss _ _ _ _).drew⟩ | exact ⟨rfl, below_sss _ _ _ _⟩
end Go.Proofs.YthagbapcnanpjaaDoor
