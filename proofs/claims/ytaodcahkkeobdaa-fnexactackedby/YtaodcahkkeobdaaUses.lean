import Derived.Test.YtaodcahkkeobdaaMem
namespace Go.Proofs.Ytaodcahkkeobdaa
open Go.RowKit
set_option linter.unusedVariables false

theorem infoU : (Try.prog.info? 68).map (·.size) = some 9 := by kernel_rfl
theorem hpA2 (w : World) (a b : Obj) : ((w.alloc a).alloc b).heap[w.heap.size]? = some a := by rw [Below.heap_alloc _ _ _ (by simp)]; exact heap_alloc_new w a
theorem alU (w : World) (a b : Obj) : Below w.heap.size w ((w.alloc a).alloc b) := ((Below.refl _ _).alloc (Nat.le_refl _) _).alloc (by simp) _
set_option maxRecDepth 20000 in
set_option maxHeartbeats 2000000 in
theorem uses_0 (w : World) : Calls Try.prog 40 #[.int .i64 0] w fun e w' => e = .returned (.agg #[.bool true, .bool true, .bool false, .bool false, .bool false, .bool false, .int .i64 0, .int .i64 0, .int .i64 0]) ∧ Below w.heap.size w w' := by
  go_enter Try.func40, Try.ntmps40
  go_wp2
  refine bodyPost_ret (v := .agg #[.bool true, .bool true, .bool false, .bool false, .bool false, .bool false, .int .i64 0, .int .i64 0, .int .i64 0]) ?_ rfl ?_
  · refine results_cell_row (t := 68) rfl _ _ w.heap.size _ (fr := (0, 0)) _ rfl ?_ Try.underlying68 rfl infoU
    exact hpA2 _ _ _
  exact ⟨rfl, alU _ _ _⟩
set_option maxRecDepth 20000 in
set_option maxHeartbeats 2000000 in
theorem uses_1 (w : World) : Calls Try.prog 40 #[.int .i64 1] w fun e w' => e = .returned (.agg #[.bool true, .bool false, .bool false, .bool false, .bool false, .bool false, .int .i64 0, .int .i64 0, .int .i64 0]) ∧ Below w.heap.size w w' := by
  go_enter Try.func40, Try.ntmps40
  go_wp2
  refine bodyPost_ret (v := .agg #[.bool true, .bool false, .bool false, .bool false, .bool false, .bool false, .int .i64 0, .int .i64 0, .int .i64 0]) ?_ rfl ?_
  · refine results_cell_row (t := 68) rfl _ _ w.heap.size _ (fr := (0, 0)) _ rfl ?_ Try.underlying68 rfl infoU
    exact hpA2 _ _ _
  exact ⟨rfl, alU _ _ _⟩
set_option maxRecDepth 20000 in
set_option maxHeartbeats 2000000 in
theorem uses_2 (w : World) : Calls Try.prog 40 #[.int .i64 2] w fun e w' => e = .returned (.agg #[.bool true, .bool true, .bool false, .bool false, .bool false, .bool true, .int .i64 0, .int .i64 0, .int .i64 0]) ∧ Below w.heap.size w w' := by
  go_enter Try.func40, Try.ntmps40
  go_wp2
  refine bodyPost_ret (v := .agg #[.bool true, .bool true, .bool false, .bool false, .bool false, .bool true, .int .i64 0, .int .i64 0, .int .i64 0]) ?_ rfl ?_
  · refine results_cell_row (t := 68) rfl _ _ w.heap.size _ (fr := (0, 0)) _ rfl ?_ Try.underlying68 rfl infoU
    exact hpA2 _ _ _
  exact ⟨rfl, alU _ _ _⟩
set_option maxRecDepth 20000 in
set_option maxHeartbeats 2000000 in
theorem uses_4 (w : World) : Calls Try.prog 40 #[.int .i64 4] w fun e w' => e = .returned (.agg #[.bool true, .bool true, .bool true, .bool true, .bool false, .bool false, .int .i64 0, .int .i64 0, .int .i64 0]) ∧ Below w.heap.size w w' := by
  go_enter Try.func40, Try.ntmps40
  go_wp2
  refine bodyPost_ret (v := .agg #[.bool true, .bool true, .bool true, .bool true, .bool false, .bool false, .int .i64 0, .int .i64 0, .int .i64 0]) ?_ rfl ?_
  · refine results_cell_row (t := 68) rfl _ _ w.heap.size _ (fr := (0, 0)) _ rfl ?_ Try.underlying68 rfl infoU
    exact hpA2 _ _ _
  exact ⟨rfl, alU _ _ _⟩
set_option maxRecDepth 20000 in
set_option maxHeartbeats 2000000 in
theorem uses_5 (w : World) : Calls Try.prog 40 #[.int .i64 5] w fun e w' => e = .returned (.agg #[.bool true, .bool true, .bool true, .bool false, .bool false, .bool false, .int .i64 0, .int .i64 0, .int .i64 0]) ∧ Below w.heap.size w w' := by
  go_enter Try.func40, Try.ntmps40
  go_wp2
  refine bodyPost_ret (v := .agg #[.bool true, .bool true, .bool true, .bool false, .bool false, .bool false, .int .i64 0, .int .i64 0, .int .i64 0]) ?_ rfl ?_
  · refine results_cell_row (t := 68) rfl _ _ w.heap.size _ (fr := (0, 0)) _ rfl ?_ Try.underlying68 rfl infoU
    exact hpA2 _ _ _
  exact ⟨rfl, alU _ _ _⟩
set_option maxRecDepth 20000 in
set_option maxHeartbeats 2000000 in
theorem uses_6 (w : World) : Calls Try.prog 40 #[.int .i64 6] w fun e w' => e = .returned (.agg #[.bool true, .bool true, .bool false, .bool false, .bool false, .bool false, .int .i64 0, .int .i64 1500, .int .i64 0]) ∧ Below w.heap.size w w' := by
  go_enter Try.func40, Try.ntmps40
  go_wp2
  refine bodyPost_ret (v := .agg #[.bool true, .bool true, .bool false, .bool false, .bool false, .bool false, .int .i64 0, .int .i64 1500, .int .i64 0]) ?_ rfl ?_
  · refine results_cell_row (t := 68) rfl _ _ w.heap.size _ (fr := (0, 0)) _ rfl ?_ Try.underlying68 rfl infoU
    exact hpA2 _ _ _
  exact ⟨rfl, alU _ _ _⟩
set_option maxRecDepth 20000 in
set_option maxHeartbeats 2000000 in
theorem uses_7 (w : World) : Calls Try.prog 40 #[.int .i64 7] w fun e w' => e = .returned (.agg #[.bool true, .bool false, .bool false, .bool false, .bool false, .bool false, .int .i64 1, .int .i64 64, .int .i64 0]) ∧ Below w.heap.size w w' := by
  go_enter Try.func40, Try.ntmps40
  go_wp2
  refine bodyPost_ret (v := .agg #[.bool true, .bool false, .bool false, .bool false, .bool false, .bool false, .int .i64 1, .int .i64 64, .int .i64 0]) ?_ rfl ?_
  · refine results_cell_row (t := 68) rfl _ _ w.heap.size _ (fr := (0, 0)) _ rfl ?_ Try.underlying68 rfl infoU
    exact hpA2 _ _ _
  exact ⟨rfl, alU _ _ _⟩
set_option maxRecDepth 20000 in
set_option maxHeartbeats 2000000 in
theorem uses_8 (w : World) : Calls Try.prog 40 #[.int .i64 8] w fun e w' => e = .returned (.agg #[.bool true, .bool true, .bool true, .bool false, .bool true, .bool false, .int .i64 0, .int .i64 1500, .int .i64 0]) ∧ Below w.heap.size w w' := by
  go_enter Try.func40, Try.ntmps40
  go_wp2
  refine bodyPost_ret (v := .agg #[.bool true, .bool true, .bool true, .bool false, .bool true, .bool false, .int .i64 0, .int .i64 1500, .int .i64 0]) ?_ rfl ?_
  · refine results_cell_row (t := 68) rfl _ _ w.heap.size _ (fr := (0, 0)) _ rfl ?_ Try.underlying68 rfl infoU
    exact hpA2 _ _ _
  exact ⟨rfl, alU _ _ _⟩
set_option maxRecDepth 20000 in
set_option maxHeartbeats 2000000 in
theorem uses_16 (w : World) : Calls Try.prog 40 #[.int .i64 16] w fun e w' => e = .returned (.agg #[.bool true, .bool true, .bool false, .bool false, .bool false, .bool false, .int .i64 0, .int .i64 0, .int .i64 0]) ∧ Below w.heap.size w w' := by
  go_enter Try.func40, Try.ntmps40
  go_wp2
  refine bodyPost_ret (v := .agg #[.bool true, .bool true, .bool false, .bool false, .bool false, .bool false, .int .i64 0, .int .i64 0, .int .i64 0]) ?_ rfl ?_
  · refine results_cell_row (t := 68) rfl _ _ w.heap.size _ (fr := (0, 0)) _ rfl ?_ Try.underlying68 rfl infoU
    exact hpA2 _ _ _
  exact ⟨rfl, alU _ _ _⟩
set_option maxRecDepth 20000 in
set_option maxHeartbeats 2000000 in
theorem uses_17 (w : World) : Calls Try.prog 40 #[.int .i64 17] w fun e w' => e = .returned (.agg #[.bool true, .bool true, .bool true, .bool false, .bool false, .bool false, .int .i64 0, .int .i64 0, .int .i64 0]) ∧ Below w.heap.size w w' := by
  go_enter Try.func40, Try.ntmps40
  go_wp2
  refine bodyPost_ret (v := .agg #[.bool true, .bool true, .bool true, .bool false, .bool false, .bool false, .int .i64 0, .int .i64 0, .int .i64 0]) ?_ rfl ?_
  · refine results_cell_row (t := 68) rfl _ _ w.heap.size _ (fr := (0, 0)) _ rfl ?_ Try.underlying68 rfl infoU
    exact hpA2 _ _ _
  exact ⟨rfl, alU _ _ _⟩
set_option maxRecDepth 20000 in
set_option maxHeartbeats 2000000 in
theorem uses_18 (w : World) : Calls Try.prog 40 #[.int .i64 18] w fun e w' => e = .returned (.agg #[.bool true, .bool true, .bool true, .bool false, .bool false, .bool false, .int .i64 0, .int .i64 0, .int .i64 0]) ∧ Below w.heap.size w w' := by
  go_enter Try.func40, Try.ntmps40
  go_wp2
  refine bodyPost_ret (v := .agg #[.bool true, .bool true, .bool true, .bool false, .bool false, .bool false, .int .i64 0, .int .i64 0, .int .i64 0]) ?_ rfl ?_
  · refine results_cell_row (t := 68) rfl _ _ w.heap.size _ (fr := (0, 0)) _ rfl ?_ Try.underlying68 rfl infoU
    exact hpA2 _ _ _
  exact ⟨rfl, alU _ _ _⟩
set_option maxRecDepth 20000 in
set_option maxHeartbeats 2000000 in
theorem uses_20 (w : World) : Calls Try.prog 40 #[.int .i64 20] w fun e w' => e = .returned (.agg #[.bool true, .bool true, .bool false, .bool false, .bool false, .bool false, .int .i64 0, .int .i64 0, .int .i64 0]) ∧ Below w.heap.size w w' := by
  go_enter Try.func40, Try.ntmps40
  go_wp2
  refine bodyPost_ret (v := .agg #[.bool true, .bool true, .bool false, .bool false, .bool false, .bool false, .int .i64 0, .int .i64 0, .int .i64 0]) ?_ rfl ?_
  · refine results_cell_row (t := 68) rfl _ _ w.heap.size _ (fr := (0, 0)) _ rfl ?_ Try.underlying68 rfl infoU
    exact hpA2 _ _ _
  exact ⟨rfl, alU _ _ _⟩
set_option maxRecDepth 20000 in
set_option maxHeartbeats 2000000 in
theorem uses_21 (w : World) : Calls Try.prog 40 #[.int .i64 21] w fun e w' => e = .returned (.agg #[.bool true, .bool true, .bool true, .bool false, .bool false, .bool false, .int .i64 0, .int .i64 0, .int .i64 0]) ∧ Below w.heap.size w w' := by
  go_enter Try.func40, Try.ntmps40
  go_wp2
  refine bodyPost_ret (v := .agg #[.bool true, .bool true, .bool true, .bool false, .bool false, .bool false, .int .i64 0, .int .i64 0, .int .i64 0]) ?_ rfl ?_
  · refine results_cell_row (t := 68) rfl _ _ w.heap.size _ (fr := (0, 0)) _ rfl ?_ Try.underlying68 rfl infoU
    exact hpA2 _ _ _
  exact ⟨rfl, alU _ _ _⟩
set_option maxRecDepth 20000 in
set_option maxHeartbeats 2000000 in
theorem uses_22 (w : World) : Calls Try.prog 40 #[.int .i64 22] w fun e w' => e = .returned (.agg #[.bool true, .bool true, .bool true, .bool false, .bool false, .bool false, .int .i64 0, .int .i64 0, .int .i64 0]) ∧ Below w.heap.size w w' := by
  go_enter Try.func40, Try.ntmps40
  go_wp2
  refine bodyPost_ret (v := .agg #[.bool true, .bool true, .bool true, .bool false, .bool false, .bool false, .int .i64 0, .int .i64 0, .int .i64 0]) ?_ rfl ?_
  · refine results_cell_row (t := 68) rfl _ _ w.heap.size _ (fr := (0, 0)) _ rfl ?_ Try.underlying68 rfl infoU
    exact hpA2 _ _ _
  exact ⟨rfl, alU _ _ _⟩
set_option maxRecDepth 20000 in
set_option maxHeartbeats 2000000 in
theorem uses_24 (w : World) : Calls Try.prog 40 #[.int .i64 24] w fun e w' => e = .returned (.agg #[.bool true, .bool true, .bool true, .bool false, .bool false, .bool false, .int .i64 1, .int .i64 8, .int .i64 8]) ∧ Below w.heap.size w w' := by
  go_enter Try.func40, Try.ntmps40
  go_wp2
  refine bodyPost_ret (v := .agg #[.bool true, .bool true, .bool true, .bool false, .bool false, .bool false, .int .i64 1, .int .i64 8, .int .i64 8]) ?_ rfl ?_
  · refine results_cell_row (t := 68) rfl _ _ w.heap.size _ (fr := (0, 0)) _ rfl ?_ Try.underlying68 rfl infoU
    exact hpA2 _ _ _
  exact ⟨rfl, alU _ _ _⟩
set_option maxRecDepth 20000 in
set_option maxHeartbeats 2000000 in
theorem uses_25 (w : World) : Calls Try.prog 40 #[.int .i64 25] w fun e w' => e = .returned (.agg #[.bool true, .bool true, .bool false, .bool false, .bool false, .bool false, .int .i64 0, .int .i64 0, .int .i64 0]) ∧ Below w.heap.size w w' := by
  go_enter Try.func40, Try.ntmps40
  go_wp2
  refine bodyPost_ret (v := .agg #[.bool true, .bool true, .bool false, .bool false, .bool false, .bool false, .int .i64 0, .int .i64 0, .int .i64 0]) ?_ rfl ?_
  · refine results_cell_row (t := 68) rfl _ _ w.heap.size _ (fr := (0, 0)) _ rfl ?_ Try.underlying68 rfl infoU
    exact hpA2 _ _ _
  exact ⟨rfl, alU _ _ _⟩
set_option maxRecDepth 20000 in
set_option maxHeartbeats 2000000 in
theorem uses_26 (w : World) : Calls Try.prog 40 #[.int .i64 26] w fun e w' => e = .returned (.agg #[.bool true, .bool false, .bool false, .bool false, .bool false, .bool false, .int .i64 8, .int .i64 8, .int .i64 0]) ∧ Below w.heap.size w w' := by
  go_enter Try.func40, Try.ntmps40
  go_wp2
  refine bodyPost_ret (v := .agg #[.bool true, .bool false, .bool false, .bool false, .bool false, .bool false, .int .i64 8, .int .i64 8, .int .i64 0]) ?_ rfl ?_
  · refine results_cell_row (t := 68) rfl _ _ w.heap.size _ (fr := (0, 0)) _ rfl ?_ Try.underlying68 rfl infoU
    exact hpA2 _ _ _
  exact ⟨rfl, alU _ _ _⟩
set_option maxRecDepth 20000 in
set_option maxHeartbeats 2000000 in
theorem uses_27 (w : World) : Calls Try.prog 40 #[.int .i64 27] w fun e w' => e = .returned (.agg #[.bool true, .bool false, .bool false, .bool false, .bool false, .bool false, .int .i64 8, .int .i64 8, .int .i64 0]) ∧ Below w.heap.size w w' := by
  go_enter Try.func40, Try.ntmps40
  go_wp2
  refine bodyPost_ret (v := .agg #[.bool true, .bool false, .bool false, .bool false, .bool false, .bool false, .int .i64 8, .int .i64 8, .int .i64 0]) ?_ rfl ?_
  · refine results_cell_row (t := 68) rfl _ _ w.heap.size _ (fr := (0, 0)) _ rfl ?_ Try.underlying68 rfl infoU
    exact hpA2 _ _ _
  exact ⟨rfl, alU _ _ _⟩
set_option maxRecDepth 20000 in
set_option maxHeartbeats 2000000 in
theorem uses_28 (w : World) : Calls Try.prog 40 #[.int .i64 28] w fun e w' => e = .returned (.agg #[.bool true, .bool true, .bool true, .bool false, .bool false, .bool false, .int .i64 0, .int .i64 200, .int .i64 0]) ∧ Below w.heap.size w w' := by
  go_enter Try.func40, Try.ntmps40
  go_wp2
  refine bodyPost_ret (v := .agg #[.bool true, .bool true, .bool true, .bool false, .bool false, .bool false, .int .i64 0, .int .i64 200, .int .i64 0]) ?_ rfl ?_
  · refine results_cell_row (t := 68) rfl _ _ w.heap.size _ (fr := (0, 0)) _ rfl ?_ Try.underlying68 rfl infoU
    exact hpA2 _ _ _
  exact ⟨rfl, alU _ _ _⟩
set_option maxRecDepth 20000 in
set_option maxHeartbeats 2000000 in
theorem uses_29 (w : World) : Calls Try.prog 40 #[.int .i64 29] w fun e w' => e = .returned (.agg #[.bool true, .bool true, .bool false, .bool false, .bool false, .bool false, .int .i64 0, .int .i64 200, .int .i64 0]) ∧ Below w.heap.size w w' := by
  go_enter Try.func40, Try.ntmps40
  go_wp2
  refine bodyPost_ret (v := .agg #[.bool true, .bool true, .bool false, .bool false, .bool false, .bool false, .int .i64 0, .int .i64 200, .int .i64 0]) ?_ rfl ?_
  · refine results_cell_row (t := 68) rfl _ _ w.heap.size _ (fr := (0, 0)) _ rfl ?_ Try.underlying68 rfl infoU
    exact hpA2 _ _ _
  exact ⟨rfl, alU _ _ _⟩
set_option maxRecDepth 20000 in
set_option maxHeartbeats 2000000 in
theorem uses_30 (w : World) : Calls Try.prog 40 #[.int .i64 30] w fun e w' => e = .returned (.agg #[.bool true, .bool false, .bool false, .bool false, .bool false, .bool false, .int .i64 0, .int .i64 0, .int .i64 0]) ∧ Below w.heap.size w w' := by
  go_enter Try.func40, Try.ntmps40
  go_wp2
  refine bodyPost_ret (v := .agg #[.bool true, .bool false, .bool false, .bool false, .bool false, .bool false, .int .i64 0, .int .i64 0, .int .i64 0]) ?_ rfl ?_
  · refine results_cell_row (t := 68) rfl _ _ w.heap.size _ (fr := (0, 0)) _ rfl ?_ Try.underlying68 rfl infoU
    exact hpA2 _ _ _
  exact ⟨rfl, alU _ _ _⟩
set_option maxRecDepth 20000 in
set_option maxHeartbeats 2000000 in
theorem uses_48 (w : World) : Calls Try.prog 40 #[.int .i64 48] w fun e w' => e = .returned (.agg #[.bool true, .bool false, .bool false, .bool false, .bool false, .bool false, .int .i64 0, .int .i64 1500, .int .i64 0]) ∧ Below w.heap.size w w' := by
  go_enter Try.func40, Try.ntmps40
  go_wp2
  refine bodyPost_ret (v := .agg #[.bool true, .bool false, .bool false, .bool false, .bool false, .bool false, .int .i64 0, .int .i64 1500, .int .i64 0]) ?_ rfl ?_
  · refine results_cell_row (t := 68) rfl _ _ w.heap.size _ (fr := (0, 0)) _ rfl ?_ Try.underlying68 rfl infoU
    exact hpA2 _ _ _
  exact ⟨rfl, alU _ _ _⟩
set_option maxRecDepth 20000 in
set_option maxHeartbeats 2000000 in
theorem uses_none (k : Int) (w : World) (hk : k ∉ ([0, 1, 2, 4, 5, 6, 7, 8, 16, 17, 18, 20, 21, 22, 24, 25, 26, 27, 28, 29, 30, 48] : List Int)) : Calls Try.prog 40 #[.int .i64 k] w fun e w' => e = .returned (.agg #[.bool false, .bool false, .bool false, .bool false, .bool false, .bool false, .int .i64 0, .int .i64 0, .int .i64 0]) ∧ Below w.heap.size w w' := by
  simp only [List.mem_cons, not_or, List.not_mem_nil, not_false_eq_true, and_true] at hk
  obtain ⟨h0, h1, h2, h4, h5, h6, h7, h8, h16, h17, h18, h20, h21, h22, h24, h25, h26, h27, h28, h29, h30, h48⟩ := hk
  replace h0 : (k == 0) = false := by simp [h0]
  replace h1 : (k == 1) = false := by simp [h1]
  replace h2 : (k == 2) = false := by simp [h2]
  replace h4 : (k == 4) = false := by simp [h4]
  replace h5 : (k == 5) = false := by simp [h5]
  replace h6 : (k == 6) = false := by simp [h6]
  replace h7 : (k == 7) = false := by simp [h7]
  replace h8 : (k == 8) = false := by simp [h8]
  replace h16 : (k == 16) = false := by simp [h16]
  replace h17 : (k == 17) = false := by simp [h17]
  replace h18 : (k == 18) = false := by simp [h18]
  replace h20 : (k == 20) = false := by simp [h20]
  replace h21 : (k == 21) = false := by simp [h21]
  replace h22 : (k == 22) = false := by simp [h22]
  replace h24 : (k == 24) = false := by simp [h24]
  replace h25 : (k == 25) = false := by simp [h25]
  replace h26 : (k == 26) = false := by simp [h26]
  replace h27 : (k == 27) = false := by simp [h27]
  replace h28 : (k == 28) = false := by simp [h28]
  replace h29 : (k == 29) = false := by simp [h29]
  replace h30 : (k == 30) = false := by simp [h30]
  replace h48 : (k == 48) = false := by simp [h48]
  go_enter Try.func40, Try.ntmps40
  go_wp2
  refine bodyPost_ret (v := .agg #[.bool false, .bool false, .bool false, .bool false, .bool false, .bool false, .int .i64 0, .int .i64 0, .int .i64 0]) ?_ rfl ?_
  · refine results_cell_row (t := 68) rfl _ _ w.heap.size _ (fr := (0, 0)) _ rfl ?_ Try.underlying68 rfl infoU
    exact hpA2 _ _ _
  exact ⟨rfl, alU _ _ _⟩
end Go.Proofs.Ytaodcahkkeobdaa
