import Derived.Test.YthagbapcnanpjaaDoorStA
namespace Go.Proofs.YthagbapcnanpjaaDoor
open Go.RowKit
set_option linter.unusedVariables false

theorem ssS_0 (w : World) :
    Calls Tryd.prog 5 #[.int .i64 0] w fun e w' => e = .returned (.tuple #[.agg #[.string ⟨#[58, 112, 97, 116, 104]⟩, .string ⟨#[47]⟩], .int .i64 0]) ∧ Below w.heap.size w w' := by
  go_enter Tryd.func5, Tryd.ntmps5
  go_wp2
  go_region
  all_goals
    go_wp2
    refine bodyPost_ret (v := .tuple #[.agg #[.string ⟨#[58, 112, 97, 116, 104]⟩, .string ⟨#[47]⟩], .int .i64 0]) (by simp [results, Tryd.results5, go_sem]) rfl ?_
    first | exact ⟨rfl, (below_sss _ _ _ _).drew⟩ | exact ⟨rfl, below_sss _ _ _ _⟩
theorem ssS_1 (w : World) :
    Calls Tryd.prog 5 #[.int .i64 1] w fun e w' => e = .returned (.tuple #[.agg #[.string ⟨#[58, 109, 101, 116, 104, 111, 100]⟩, .string ⟨#[71, 69, 84]⟩], .int .i64 0]) ∧ Below w.heap.size w w' := by
  go_enter Tryd.func5, Tryd.ntmps5
  go_wp2
  go_region
  all_goals
    go_wp2
    refine bodyPost_ret (v := .tuple #[.agg #[.string ⟨#[58, 109, 101, 116, 104, 111, 100]⟩, .string ⟨#[71, 69, 84]⟩], .int .i64 0]) (by simp [results, Tryd.results5, go_sem]) rfl ?_
    first | exact ⟨rfl, (below_sss _ _ _ _).drew⟩ | exact ⟨rfl, below_sss _ _ _ _⟩
theorem ssS_2 (w : World) :
    Calls Tryd.prog 5 #[.int .i64 2] w fun e w' => e = .returned (.tuple #[.agg #[.string ⟨#[58, 109, 101, 116, 104, 111, 100]⟩, .string ⟨#[80, 79, 83, 84]⟩], .int .i64 0]) ∧ Below w.heap.size w w' := by
  go_enter Tryd.func5, Tryd.ntmps5
  go_wp2
  go_region
  all_goals
    go_wp2
    refine bodyPost_ret (v := .tuple #[.agg #[.string ⟨#[58, 109, 101, 116, 104, 111, 100]⟩, .string ⟨#[80, 79, 83, 84]⟩], .int .i64 0]) (by simp [results, Tryd.results5, go_sem]) rfl ?_
    first | exact ⟨rfl, (below_sss _ _ _ _).drew⟩ | exact ⟨rfl, below_sss _ _ _ _⟩
theorem ssS_3 (w : World) :
    Calls Tryd.prog 5 #[.int .i64 3] w fun e w' => e = .returned (.tuple #[.agg #[.string ⟨#[58, 109, 101, 116, 104, 111, 100]⟩, .string ⟨#[72, 69, 65, 68]⟩], .int .i64 0]) ∧ Below w.heap.size w w' := by
  go_enter Tryd.func5, Tryd.ntmps5
  go_wp2
  go_region
  all_goals
    go_wp2
    refine bodyPost_ret (v := .tuple #[.agg #[.string ⟨#[58, 109, 101, 116, 104, 111, 100]⟩, .string ⟨#[72, 69, 65, 68]⟩], .int .i64 0]) (by simp [results, Tryd.results5, go_sem]) rfl ?_
    first | exact ⟨rfl, (below_sss _ _ _ _).drew⟩ | exact ⟨rfl, below_sss _ _ _ _⟩
theorem ssS_4 (w : World) :
    Calls Tryd.prog 5 #[.int .i64 4] w fun e w' => e = .returned (.tuple #[.agg #[.string ⟨#[58, 109, 101, 116, 104, 111, 100]⟩, .string ⟨#[68, 69, 76, 69, 84, 69]⟩], .int .i64 0]) ∧ Below w.heap.size w w' := by
  go_enter Tryd.func5, Tryd.ntmps5
  go_wp2
  go_region
  all_goals
    go_wp2
    refine bodyPost_ret (v := .tuple #[.agg #[.string ⟨#[58, 109, 101, 116, 104, 111, 100]⟩, .string ⟨#[68, 69, 76, 69, 84, 69]⟩], .int .i64 0]) (by simp [results, Tryd.results5, go_sem]) rfl ?_
    first | exact ⟨rfl, (below_sss _ _ _ _).drew⟩ | exact ⟨rfl, below_sss _ _ _ _⟩
theorem ssS_5 (w : World) :
    Calls Tryd.prog 5 #[.int .i64 5] w fun e w' => e = .returned (.tuple #[.agg #[.string ⟨#[58, 97, 117, 116, 104, 111, 114, 105, 116, 121]⟩, .string ⟨#[]⟩], .int .i64 0]) ∧ Below w.heap.size w w' := by
  go_enter Tryd.func5, Tryd.ntmps5
  go_wp2
  go_region
  all_goals
    go_wp2
    refine bodyPost_ret (v := .tuple #[.agg #[.string ⟨#[58, 97, 117, 116, 104, 111, 114, 105, 116, 121]⟩, .string ⟨#[]⟩], .int .i64 0]) (by simp [results, Tryd.results5, go_sem]) rfl ?_
    first | exact ⟨rfl, (below_sss _ _ _ _).drew⟩ | exact ⟨rfl, below_sss _ _ _ _⟩
end Go.Proofs.YthagbapcnanpjaaDoor
