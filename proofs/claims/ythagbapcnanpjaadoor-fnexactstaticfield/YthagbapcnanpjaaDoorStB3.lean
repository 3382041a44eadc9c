import Derived.Test.YthagbapcnanpjaaDoorStA
namespace Go.Proofs.YthagbapcnanpjaaDoor
open Go.RowKit
set_option linter.unusedVariables false

theorem ssS_18 (w : World) :
    Calls Tryd.prog 5 #[.int .i64 18] w fun e w' => e = .returned (.tuple #[.agg #[.string ⟨#[99, 111, 110, 116, 101, 110, 116, 45, 116, 121, 112, 101]⟩, .string ⟨#[97, 112, 112, 108, 105, 99, 97, 116, 105, 111, 110, 47, 106, 115, 111, 110]⟩], .int .i64 0]) ∧ Below w.heap.size w w' := by
  go_enter Tryd.func5, Tryd.ntmps5
  go_wp2
  go_region
  all_goals
    go_wp2
    refine bodyPost_ret (v := .tuple #[.agg #[.string ⟨#[99, 111, 110, 116, 101, 110, 116, 45, 116, 121, 112, 101]⟩, .string ⟨#[97, 112, 112, 108, 105, 99, 97, 116, 105, 111, 110, 47, 106, 115, 111, 110]⟩], .int .i64 0]) (by simp [results, Tryd.results5, go_sem]) rfl ?_
    first | exact ⟨rfl, (below_sss _ _ _ _).drew⟩ | exact ⟨rfl, below_sss _ _ _ _⟩
theorem ssS_19 (w : World) :
    Calls Tryd.prog 5 #[.int .i64 19] w fun e w' => e = .returned (.tuple #[.agg #[.string ⟨#[99, 111, 111, 107, 105, 101]⟩, .string ⟨#[]⟩], .int .i64 0]) ∧ Below w.heap.size w w' := by
  go_enter Tryd.func5, Tryd.ntmps5
  go_wp2
  go_region
  all_goals
    go_wp2
    refine bodyPost_ret (v := .tuple #[.agg #[.string ⟨#[99, 111, 111, 107, 105, 101]⟩, .string ⟨#[]⟩], .int .i64 0]) (by simp [results, Tryd.results5, go_sem]) rfl ?_
    first | exact ⟨rfl, (below_sss _ _ _ _).drew⟩ | exact ⟨rfl, below_sss _ _ _ _⟩
theorem ssS_20 (w : World) :
    Calls Tryd.prog 5 #[.int .i64 20] w fun e w' => e = .returned (.tuple #[.agg #[.string ⟨#[100, 97, 116, 101]⟩, .string ⟨#[]⟩], .int .i64 0]) ∧ Below w.heap.size w w' := by
  go_enter Tryd.func5, Tryd.ntmps5
  go_wp2
  go_region
  all_goals
    go_wp2
    refine bodyPost_ret (v := .tuple #[.agg #[.string ⟨#[100, 97, 116, 101]⟩, .string ⟨#[]⟩], .int .i64 0]) (by simp [results, Tryd.results5, go_sem]) rfl ?_
    first | exact ⟨rfl, (below_sss _ _ _ _).drew⟩ | exact ⟨rfl, below_sss _ _ _ _⟩
theorem ssS_21 (w : World) :
    Calls Tryd.prog 5 #[.int .i64 21] w fun e w' => e = .returned (.tuple #[.agg #[.string ⟨#[101, 116, 97, 103]⟩, .string ⟨#[]⟩], .int .i64 0]) ∧ Below w.heap.size w w' := by
  go_enter Tryd.func5, Tryd.ntmps5
  go_wp2
  go_region
  all_goals
    go_wp2
    refine bodyPost_ret (v := .tuple #[.agg #[.string ⟨#[101, 116, 97, 103]⟩, .string ⟨#[]⟩], .int .i64 0]) (by simp [results, Tryd.results5, go_sem]) rfl ?_
    first | exact ⟨rfl, (below_sss _ _ _ _).drew⟩ | exact ⟨rfl, below_sss _ _ _ _⟩
theorem ssS_22 (w : World) :
    Calls Tryd.prog 5 #[.int .i64 22] w fun e w' => e = .returned (.tuple #[.agg #[.string ⟨#[108, 111, 99, 97, 116, 105, 111, 110]⟩, .string ⟨#[]⟩], .int .i64 0]) ∧ Below w.heap.size w w' := by
  go_enter Tryd.func5, Tryd.ntmps5
  go_wp2
  go_region
  all_goals
    go_wp2
    refine bodyPost_ret (v := .tuple #[.agg #[.string ⟨#[108, 111, 99, 97, 116, 105, 111, 110]⟩, .string ⟨#[]⟩], .int .i64 0]) (by simp [results, Tryd.results5, go_sem]) rfl ?_
    first | exact ⟨rfl, (below_sss _ _ _ _).drew⟩ | exact ⟨rfl, below_sss _ _ _ _⟩
theorem ssS_23 (w : World) :
    Calls Tryd.prog 5 #[.int .i64 23] w fun e w' => e = .returned (.tuple #[.agg #[.string ⟨#[112, 114, 105, 111, 114, 105, 116, 121]⟩, .string ⟨#[]⟩], .int .i64 0]) ∧ Below w.heap.size w w' := by
  go_enter Tryd.func5, Tryd.ntmps5
  go_wp2
  go_region
  all_goals
    go_wp2
    refine bodyPost_ret (v := .tuple #[.agg #[.string ⟨#[112, 114, 105, 111, 114, 105, 116, 121]⟩, .string ⟨#[]⟩], .int .i64 0]) (by simp [results, Tryd.results5, go_sem]) rfl ?_
    first | exact ⟨rfl, (below_sss _ _ _ _).drew⟩ | exact ⟨rfl, below_sss _ _ _ _⟩
end Go.Proofs.YthagbapcnanpjaaDoor
