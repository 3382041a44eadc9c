import Derived.Test.YthagbapcnanpjaaDoorStA
namespace Go.Proofs.YthagbapcnanpjaaDoor
open Go.RowKit
set_option linter.unusedVariables false

theorem ssS_6 (w : World) :
    Calls Tryd.prog 5 #[.int .i64 6] w fun e w' => e = .returned (.tuple #[.agg #[.string ⟨#[58, 115, 99, 104, 101, 109, 101]⟩, .string ⟨#[104, 116, 116, 112, 115]⟩], .int .i64 0]) ∧ Below w.heap.size w w' := by
  go_enter Tryd.func5, Tryd.ntmps5
  go_wp2
  go_region
  all_goals
    go_wp2
    refine bodyPost_ret (v := .tuple #[.agg #[.string ⟨#[58, 115, 99, 104, 101, 109, 101]⟩, .string ⟨#[104, 116, 116, 112, 115]⟩], .int .i64 0]) (by simp [results, Tryd.results5, go_sem]) rfl ?_
    first | exact ⟨rfl, (below_sss _ _ _ _).drew⟩ | exact ⟨rfl, below_sss _ _ _ _⟩
theorem ssS_7 (w : World) :
    Calls Tryd.prog 5 #[.int .i64 7] w fun e w' => e = .returned (.tuple #[.agg #[.string ⟨#[58, 115, 116, 97, 116, 117, 115]⟩, .string ⟨#[50, 48, 48]⟩], .int .i64 0]) ∧ Below w.heap.size w w' := by
  go_enter Tryd.func5, Tryd.ntmps5
  go_wp2
  go_region
  all_goals
    go_wp2
    refine bodyPost_ret (v := .tuple #[.agg #[.string ⟨#[58, 115, 116, 97, 116, 117, 115]⟩, .string ⟨#[50, 48, 48]⟩], .int .i64 0]) (by simp [results, Tryd.results5, go_sem]) rfl ?_
    first | exact ⟨rfl, (below_sss _ _ _ _).drew⟩ | exact ⟨rfl, below_sss _ _ _ _⟩
theorem ssS_8 (w : World) :
    Calls Tryd.prog 5 #[.int .i64 8] w fun e w' => e = .returned (.tuple #[.agg #[.string ⟨#[58, 115, 116, 97, 116, 117, 115]⟩, .string ⟨#[50, 48, 52]⟩], .int .i64 0]) ∧ Below w.heap.size w w' := by
  go_enter Tryd.func5, Tryd.ntmps5
  go_wp2
  go_region
  all_goals
    go_wp2
    refine bodyPost_ret (v := .tuple #[.agg #[.string ⟨#[58, 115, 116, 97, 116, 117, 115]⟩, .string ⟨#[50, 48, 52]⟩], .int .i64 0]) (by simp [results, Tryd.results5, go_sem]) rfl ?_
    first | exact ⟨rfl, (below_sss _ _ _ _).drew⟩ | exact ⟨rfl, below_sss _ _ _ _⟩
theorem ssS_9 (w : World) :
    Calls Tryd.prog 5 #[.int .i64 9] w fun e w' => e = .returned (.tuple #[.agg #[.string ⟨#[58, 115, 116, 97, 116, 117, 115]⟩, .string ⟨#[50, 48, 54]⟩], .int .i64 0]) ∧ Below w.heap.size w w' := by
  go_enter Tryd.func5, Tryd.ntmps5
  go_wp2
  go_region
  all_goals
    go_wp2
    refine bodyPost_ret (v := .tuple #[.agg #[.string ⟨#[58, 115, 116, 97, 116, 117, 115]⟩, .string ⟨#[50, 48, 54]⟩], .int .i64 0]) (by simp [results, Tryd.results5, go_sem]) rfl ?_
    first | exact ⟨rfl, (below_sss _ _ _ _).drew⟩ | exact ⟨rfl, below_sss _ _ _ _⟩
theorem ssS_10 (w : World) :
    Calls Tryd.prog 5 #[.int .i64 10] w fun e w' => e = .returned (.tuple #[.agg #[.string ⟨#[58, 115, 116, 97, 116, 117, 115]⟩, .string ⟨#[51, 48, 52]⟩], .int .i64 0]) ∧ Below w.heap.size w w' := by
  go_enter Tryd.func5, Tryd.ntmps5
  go_wp2
  go_region
  all_goals
    go_wp2
    refine bodyPost_ret (v := .tuple #[.agg #[.string ⟨#[58, 115, 116, 97, 116, 117, 115]⟩, .string ⟨#[51, 48, 52]⟩], .int .i64 0]) (by simp [results, Tryd.results5, go_sem]) rfl ?_
    first | exact ⟨rfl, (below_sss _ _ _ _).drew⟩ | exact ⟨rfl, below_sss _ _ _ _⟩
theorem ssS_11 (w : World) :
    Calls Tryd.prog 5 #[.int .i64 11] w fun e w' => e = .returned (.tuple #[.agg #[.string ⟨#[58, 115, 116, 97, 116, 117, 115]⟩, .string ⟨#[52, 48, 48]⟩], .int .i64 0]) ∧ Below w.heap.size w w' := by
  go_enter Tryd.func5, Tryd.ntmps5
  go_wp2
  go_region
  all_goals
    go_wp2
    refine bodyPost_ret (v := .tuple #[.agg #[.string ⟨#[58, 115, 116, 97, 116, 117, 115]⟩, .string ⟨#[52, 48, 48]⟩], .int .i64 0]) (by simp [results, Tryd.results5, go_sem]) rfl ?_
    first | exact ⟨rfl, (below_sss _ _ _ _).drew⟩ | exact ⟨rfl, below_sss _ _ _ _⟩
end Go.Proofs.YthagbapcnanpjaaDoor
