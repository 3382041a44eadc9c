import Derived.Test.YtlbiaiohjohgiaaFitsI
import Derived.Test.YtlbiaiohjohgiaaUses
namespace Go.Proofs.Ytlbiaiohjohgiaa
open Go.RowKit
set_option linter.unusedVariables false

def kinds : List Int := [0, 1, 2, 4, 5, 6, 7, 8, 16, 17, 18, 20, 21, 22, 24, 25, 26, 27, 28, 29, 30, 48]
def everyK : List Int := [0, 1, 2, 6, 28]
def fitsV (k form : Int) : Bool := decide (k ∈ kinds) && (form == 4 || ((form == 1 || form == 2) && decide (k ∈ everyK)))
theorem fldU (b : Bool) (x1 x2 x3 x4 x5 x6 x7 x8 : Value) (w : World) : (Instr.field 42 (.agg #[.bool b, x1, x2, x3, x4, x5, x6, x7, x8]) 0).run Try.prog w = .ok (.bool b) w := by kernel_rfl
theorem usesC (k : Int) (w : World) : Calls Try.prog 21 #[.int .i64 k] w fun e w' => ∃ x1 x2 x3 x4 x5 x6 x7 x8, e = .returned (.agg #[.bool (decide (k ∈ kinds)), x1, x2, x3, x4, x5, x6, x7, x8]) ∧ Below w.heap.size w w' := by
  by_cases h : k ∈ kinds
  · rw [decide_eq_true h]
    simp only [kinds, List.mem_cons, List.not_mem_nil, or_false] at h
    rcases h with rfl | rfl | rfl | rfl | rfl | rfl | rfl | rfl | rfl | rfl | rfl | rfl | rfl | rfl | rfl | rfl | rfl | rfl | rfl | rfl | rfl | rfl
    · exact (uses_0 w).mono fun e w' h => ⟨_, _, _, _, _, _, _, _, h.1, h.2⟩
    · exact (uses_1 w).mono fun e w' h => ⟨_, _, _, _, _, _, _, _, h.1, h.2⟩
    · exact (uses_2 w).mono fun e w' h => ⟨_, _, _, _, _, _, _, _, h.1, h.2⟩
    · exact (uses_4 w).mono fun e w' h => ⟨_, _, _, _, _, _, _, _, h.1, h.2⟩
    · exact (uses_5 w).mono fun e w' h => ⟨_, _, _, _, _, _, _, _, h.1, h.2⟩
    · exact (uses_6 w).mono fun e w' h => ⟨_, _, _, _, _, _, _, _, h.1, h.2⟩
    · exact (uses_7 w).mono fun e w' h => ⟨_, _, _, _, _, _, _, _, h.1, h.2⟩
    · exact (uses_8 w).mono fun e w' h => ⟨_, _, _, _, _, _, _, _, h.1, h.2⟩
    · exact (uses_16 w).mono fun e w' h => ⟨_, _, _, _, _, _, _, _, h.1, h.2⟩
    · exact (uses_17 w).mono fun e w' h => ⟨_, _, _, _, _, _, _, _, h.1, h.2⟩
    · exact (uses_18 w).mono fun e w' h => ⟨_, _, _, _, _, _, _, _, h.1, h.2⟩
    · exact (uses_20 w).mono fun e w' h => ⟨_, _, _, _, _, _, _, _, h.1, h.2⟩
    · exact (uses_21 w).mono fun e w' h => ⟨_, _, _, _, _, _, _, _, h.1, h.2⟩
    · exact (uses_22 w).mono fun e w' h => ⟨_, _, _, _, _, _, _, _, h.1, h.2⟩
    · exact (uses_24 w).mono fun e w' h => ⟨_, _, _, _, _, _, _, _, h.1, h.2⟩
    · exact (uses_25 w).mono fun e w' h => ⟨_, _, _, _, _, _, _, _, h.1, h.2⟩
    · exact (uses_26 w).mono fun e w' h => ⟨_, _, _, _, _, _, _, _, h.1, h.2⟩
    · exact (uses_27 w).mono fun e w' h => ⟨_, _, _, _, _, _, _, _, h.1, h.2⟩
    · exact (uses_28 w).mono fun e w' h => ⟨_, _, _, _, _, _, _, _, h.1, h.2⟩
    · exact (uses_29 w).mono fun e w' h => ⟨_, _, _, _, _, _, _, _, h.1, h.2⟩
    · exact (uses_30 w).mono fun e w' h => ⟨_, _, _, _, _, _, _, _, h.1, h.2⟩
    · exact (uses_48 w).mono fun e w' h => ⟨_, _, _, _, _, _, _, _, h.1, h.2⟩
  · rw [decide_eq_false h]
    exact (uses_none k w h).mono fun e w' h => ⟨_, _, _, _, _, _, _, _, h.1, h.2⟩
theorem ifits_none (k form : Int) (w : World) (hk : k ∉ kinds) : Calls Try.prog 18 #[.int .i64 k, .int .i64 form] w fun e w' => e = .returned (.bool false) ∧ Below w.heap.size w w' := by
  have c1 := body_none k 0 0 0 false none none none 0 0 0 0 0 0 w hk
  go_enter Try.func18, Try.ntmps18
  go_wp2_with fail
  go_at_call 32
  refine c1.mono ?_
  rintro e w1 ⟨rfl, b1⟩
  go_wp2
  go_ret
  exact ⟨rfl, b1⟩
theorem implFits (k form : Int) (w : World) : Calls Try.prog 18 #[.int .i64 k, .int .i64 form] w fun e w' => e = .returned (.bool (fitsV k form)) ∧ Below w.heap.size w w' := by
  by_cases h : k ∈ kinds
  · simp only [kinds, List.mem_cons, List.not_mem_nil, or_false] at h
    rcases h with rfl | rfl | rfl | rfl | rfl | rfl | rfl | rfl | rfl | rfl | rfl | rfl | rfl | rfl | rfl | rfl | rfl | rfl | rfl | rfl | rfl | rfl
    · rw [show fitsV 0 form = (form == 1 || form == 2 || form == 4) by unfold fitsV; rw [decide_eq_true (by decide), decide_eq_true (by decide)]; cases (form == 1) <;> cases (form == 2) <;> cases (form == 4) <;> rfl]; exact ifits_0 form w
    · rw [show fitsV 1 form = (form == 1 || form == 2 || form == 4) by unfold fitsV; rw [decide_eq_true (by decide), decide_eq_true (by decide)]; cases (form == 1) <;> cases (form == 2) <;> cases (form == 4) <;> rfl]; exact ifits_1 form w
    · rw [show fitsV 2 form = (form == 1 || form == 2 || form == 4) by unfold fitsV; rw [decide_eq_true (by decide), decide_eq_true (by decide)]; cases (form == 1) <;> cases (form == 2) <;> cases (form == 4) <;> rfl]; exact ifits_2 form w
    · rw [show fitsV 4 form = (form == 4) by unfold fitsV; rw [decide_eq_true (by decide), decide_eq_false (by decide)]; cases (form == 1) <;> cases (form == 2) <;> cases (form == 4) <;> rfl]; exact ifits_4 form w
    · rw [show fitsV 5 form = (form == 4) by unfold fitsV; rw [decide_eq_true (by decide), decide_eq_false (by decide)]; cases (form == 1) <;> cases (form == 2) <;> cases (form == 4) <;> rfl]; exact ifits_5 form w
    · rw [show fitsV 6 form = (form == 1 || form == 2 || form == 4) by unfold fitsV; rw [decide_eq_true (by decide), decide_eq_true (by decide)]; cases (form == 1) <;> cases (form == 2) <;> cases (form == 4) <;> rfl]; exact ifits_6 form w
    · rw [show fitsV 7 form = (form == 4) by unfold fitsV; rw [decide_eq_true (by decide), decide_eq_false (by decide)]; cases (form == 1) <;> cases (form == 2) <;> cases (form == 4) <;> rfl]; exact ifits_7 form w
    · rw [show fitsV 8 form = (form == 4) by unfold fitsV; rw [decide_eq_true (by decide), decide_eq_false (by decide)]; cases (form == 1) <;> cases (form == 2) <;> cases (form == 4) <;> rfl]; exact ifits_8 form w
    · rw [show fitsV 16 form = (form == 4) by unfold fitsV; rw [decide_eq_true (by decide), decide_eq_false (by decide)]; cases (form == 1) <;> cases (form == 2) <;> cases (form == 4) <;> rfl]; exact ifits_16 form w
    · rw [show fitsV 17 form = (form == 4) by unfold fitsV; rw [decide_eq_true (by decide), decide_eq_false (by decide)]; cases (form == 1) <;> cases (form == 2) <;> cases (form == 4) <;> rfl]; exact ifits_17 form w
    · rw [show fitsV 18 form = (form == 4) by unfold fitsV; rw [decide_eq_true (by decide), decide_eq_false (by decide)]; cases (form == 1) <;> cases (form == 2) <;> cases (form == 4) <;> rfl]; exact ifits_18 form w
    · rw [show fitsV 20 form = (form == 4) by unfold fitsV; rw [decide_eq_true (by decide), decide_eq_false (by decide)]; cases (form == 1) <;> cases (form == 2) <;> cases (form == 4) <;> rfl]; exact ifits_20 form w
    · rw [show fitsV 21 form = (form == 4) by unfold fitsV; rw [decide_eq_true (by decide), decide_eq_false (by decide)]; cases (form == 1) <;> cases (form == 2) <;> cases (form == 4) <;> rfl]; exact ifits_21 form w
    · rw [show fitsV 22 form = (form == 4) by unfold fitsV; rw [decide_eq_true (by decide), decide_eq_false (by decide)]; cases (form == 1) <;> cases (form == 2) <;> cases (form == 4) <;> rfl]; exact ifits_22 form w
    · rw [show fitsV 24 form = (form == 4) by unfold fitsV; rw [decide_eq_true (by decide), decide_eq_false (by decide)]; cases (form == 1) <;> cases (form == 2) <;> cases (form == 4) <;> rfl]; exact ifits_24 form w
    · rw [show fitsV 25 form = (form == 4) by unfold fitsV; rw [decide_eq_true (by decide), decide_eq_false (by decide)]; cases (form == 1) <;> cases (form == 2) <;> cases (form == 4) <;> rfl]; exact ifits_25 form w
    · rw [show fitsV 26 form = (form == 4) by unfold fitsV; rw [decide_eq_true (by decide), decide_eq_false (by decide)]; cases (form == 1) <;> cases (form == 2) <;> cases (form == 4) <;> rfl]; exact ifits_26 form w
    · rw [show fitsV 27 form = (form == 4) by unfold fitsV; rw [decide_eq_true (by decide), decide_eq_false (by decide)]; cases (form == 1) <;> cases (form == 2) <;> cases (form == 4) <;> rfl]; exact ifits_27 form w
    · rw [show fitsV 28 form = (form == 1 || form == 2 || form == 4) by unfold fitsV; rw [decide_eq_true (by decide), decide_eq_true (by decide)]; cases (form == 1) <;> cases (form == 2) <;> cases (form == 4) <;> rfl]; exact ifits_28 form w
    · rw [show fitsV 29 form = (form == 4) by unfold fitsV; rw [decide_eq_true (by decide), decide_eq_false (by decide)]; cases (form == 1) <;> cases (form == 2) <;> cases (form == 4) <;> rfl]; exact ifits_29 form w
    · rw [show fitsV 30 form = (form == 4) by unfold fitsV; rw [decide_eq_true (by decide), decide_eq_false (by decide)]; cases (form == 1) <;> cases (form == 2) <;> cases (form == 4) <;> rfl]; exact ifits_30 form w
    · rw [show fitsV 48 form = (form == 4) by unfold fitsV; rw [decide_eq_true (by decide), decide_eq_false (by decide)]; cases (form == 1) <;> cases (form == 2) <;> cases (form == 4) <;> rfl]; exact ifits_48 form w
  · rw [show fitsV k form = false by unfold fitsV; rw [decide_eq_false h]; rfl]; exact ifits_none k form w h
set_option maxRecDepth 20000 in
set_option maxHeartbeats 1000000 in
theorem sf_none (k form : Int) (kn : Bool) (w : World) (c1 : Calls Try.prog 21 #[.int .i64 k] w fun e w' => ∃ x1 x2 x3 x4 x5 x6 x7 x8, e = .returned (.agg #[.bool kn, x1, x2, x3, x4, x5, x6, x7, x8]) ∧ Below w.heap.size w w') (hn : kn = false) :
    Calls Try.prog 17 #[.int .i64 k, .int .i64 form] w fun e w' => e = .returned (.bool false) ∧ Below w.heap.size w w' := by
  subst hn
  have hfu := fldU
  go_enter Try.func17, Try.ntmps17
  go_wp2_with fail
  go_at_call 21
  refine c1.mono ?_
  rintro e w1 ⟨x1, x2, x3, x4, x5, x6, x7, x8, rfl, b1⟩
  go_wp2
  go_ret
  exact ⟨rfl, b1⟩
set_option maxRecDepth 20000 in
set_option maxHeartbeats 1000000 in
theorem sf_short (k form : Int) (kn : Bool) (w : World) (c1 : Calls Try.prog 21 #[.int .i64 k] w fun e w' => ∃ x1 x2 x3 x4 x5 x6 x7 x8, e = .returned (.agg #[.bool kn, x1, x2, x3, x4, x5, x6, x7, x8]) ∧ Below w.heap.size w w') (hn : kn = true) (h4 : (form == 4) = true) :
    Calls Try.prog 17 #[.int .i64 k, .int .i64 form] w fun e w' => e = .returned (.bool true) ∧ Below w.heap.size w w' := by
  subst hn
  have hfu := fldU
  go_enter Try.func17, Try.ntmps17
  go_wp2_with fail
  go_at_call 21
  refine c1.mono ?_
  rintro e w1 ⟨x1, x2, x3, x4, x5, x6, x7, x8, rfl, b1⟩
  go_wp2
  go_ret
  exact ⟨rfl, b1⟩
set_option maxRecDepth 20000 in
set_option maxHeartbeats 1000000 in
theorem sf_other (k form : Int) (kn : Bool) (w : World) (c1 : Calls Try.prog 21 #[.int .i64 k] w fun e w' => ∃ x1 x2 x3 x4 x5 x6 x7 x8, e = .returned (.agg #[.bool kn, x1, x2, x3, x4, x5, x6, x7, x8]) ∧ Below w.heap.size w w') (hn : kn = true) (h4 : (form == 4) = false) (h1 : (form != 1) = true) (h2 : (form != 2) = true) :
    Calls Try.prog 17 #[.int .i64 k, .int .i64 form] w fun e w' => e = .returned (.bool false) ∧ Below w.heap.size w w' := by
  subst hn
  have hfu := fldU
  go_enter Try.func17, Try.ntmps17
  go_wp2_with fail
  go_at_call 21
  refine c1.mono ?_
  rintro e w1 ⟨x1, x2, x3, x4, x5, x6, x7, x8, rfl, b1⟩
  go_wp2
  go_ret
  exact ⟨rfl, b1⟩
set_option maxRecDepth 20000 in
set_option maxHeartbeats 1000000 in
theorem sf_1_0 (k form : Int) (kn : Bool) (w : World) (c1 : Calls Try.prog 21 #[.int .i64 k] w fun e w' => ∃ x1 x2 x3 x4 x5 x6 x7 x8, e = .returned (.agg #[.bool kn, x1, x2, x3, x4, x5, x6, x7, x8]) ∧ Below w.heap.size w w') (hn : kn = true) (h4 : (form == 4) = false) (h1 : (form != 1) = false) (g0 : (k == 0) = true) :
    Calls Try.prog 17 #[.int .i64 k, .int .i64 form] w fun e w' => e = .returned (.bool true) ∧ Below w.heap.size w w' := by
  subst hn
  have hfu := fldU
  go_enter Try.func17, Try.ntmps17
  go_wp2_with fail
  go_at_call 21
  refine c1.mono ?_
  rintro e w1 ⟨x1, x2, x3, x4, x5, x6, x7, x8, rfl, b1⟩
  go_wp2
  go_ret
  exact ⟨rfl, b1⟩
set_option maxRecDepth 20000 in
set_option maxHeartbeats 1000000 in
theorem sf_2_0 (k form : Int) (kn : Bool) (w : World) (c1 : Calls Try.prog 21 #[.int .i64 k] w fun e w' => ∃ x1 x2 x3 x4 x5 x6 x7 x8, e = .returned (.agg #[.bool kn, x1, x2, x3, x4, x5, x6, x7, x8]) ∧ Below w.heap.size w w') (hn : kn = true) (h4 : (form == 4) = false) (h1 : (form != 1) = true) (h2 : (form != 2) = false) (g0 : (k == 0) = true) :
    Calls Try.prog 17 #[.int .i64 k, .int .i64 form] w fun e w' => e = .returned (.bool true) ∧ Below w.heap.size w w' := by
  subst hn
  have hfu := fldU
  go_enter Try.func17, Try.ntmps17
  go_wp2_with fail
  go_at_call 21
  refine c1.mono ?_
  rintro e w1 ⟨x1, x2, x3, x4, x5, x6, x7, x8, rfl, b1⟩
  go_wp2
  go_ret
  exact ⟨rfl, b1⟩
set_option maxRecDepth 20000 in
set_option maxHeartbeats 1000000 in
theorem sf_1_1 (k form : Int) (kn : Bool) (w : World) (c1 : Calls Try.prog 21 #[.int .i64 k] w fun e w' => ∃ x1 x2 x3 x4 x5 x6 x7 x8, e = .returned (.agg #[.bool kn, x1, x2, x3, x4, x5, x6, x7, x8]) ∧ Below w.heap.size w w') (hn : kn = true) (h4 : (form == 4) = false) (h1 : (form != 1) = false) (g0 : (k == 0) = false) (g1 : (k == 1) = true) :
    Calls Try.prog 17 #[.int .i64 k, .int .i64 form] w fun e w' => e = .returned (.bool true) ∧ Below w.heap.size w w' := by
  subst hn
  have hfu := fldU
  go_enter Try.func17, Try.ntmps17
  go_wp2_with fail
  go_at_call 21
  refine c1.mono ?_
  rintro e w1 ⟨x1, x2, x3, x4, x5, x6, x7, x8, rfl, b1⟩
  go_wp2
  go_ret
  exact ⟨rfl, b1⟩
set_option maxRecDepth 20000 in
set_option maxHeartbeats 1000000 in
theorem sf_2_1 (k form : Int) (kn : Bool) (w : World) (c1 : Calls Try.prog 21 #[.int .i64 k] w fun e w' => ∃ x1 x2 x3 x4 x5 x6 x7 x8, e = .returned (.agg #[.bool kn, x1, x2, x3, x4, x5, x6, x7, x8]) ∧ Below w.heap.size w w') (hn : kn = true) (h4 : (form == 4) = false) (h1 : (form != 1) = true) (h2 : (form != 2) = false) (g0 : (k == 0) = false) (g1 : (k == 1) = true) :
    Calls Try.prog 17 #[.int .i64 k, .int .i64 form] w fun e w' => e = .returned (.bool true) ∧ Below w.heap.size w w' := by
  subst hn
  have hfu := fldU
  go_enter Try.func17, Try.ntmps17
  go_wp2_with fail
  go_at_call 21
  refine c1.mono ?_
  rintro e w1 ⟨x1, x2, x3, x4, x5, x6, x7, x8, rfl, b1⟩
  go_wp2
  go_ret
  exact ⟨rfl, b1⟩
set_option maxRecDepth 20000 in
set_option maxHeartbeats 1000000 in
theorem sf_1_2 (k form : Int) (kn : Bool) (w : World) (c1 : Calls Try.prog 21 #[.int .i64 k] w fun e w' => ∃ x1 x2 x3 x4 x5 x6 x7 x8, e = .returned (.agg #[.bool kn, x1, x2, x3, x4, x5, x6, x7, x8]) ∧ Below w.heap.size w w') (hn : kn = true) (h4 : (form == 4) = false) (h1 : (form != 1) = false) (g0 : (k == 0) = false) (g1 : (k == 1) = false) (g2 : (k == 2) = true) :
    Calls Try.prog 17 #[.int .i64 k, .int .i64 form] w fun e w' => e = .returned (.bool true) ∧ Below w.heap.size w w' := by
  subst hn
  have hfu := fldU
  go_enter Try.func17, Try.ntmps17
  go_wp2_with fail
  go_at_call 21
  refine c1.mono ?_
  rintro e w1 ⟨x1, x2, x3, x4, x5, x6, x7, x8, rfl, b1⟩
  go_wp2
  go_ret
  exact ⟨rfl, b1⟩
set_option maxRecDepth 20000 in
set_option maxHeartbeats 1000000 in
theorem sf_2_2 (k form : Int) (kn : Bool) (w : World) (c1 : Calls Try.prog 21 #[.int .i64 k] w fun e w' => ∃ x1 x2 x3 x4 x5 x6 x7 x8, e = .returned (.agg #[.bool kn, x1, x2, x3, x4, x5, x6, x7, x8]) ∧ Below w.heap.size w w') (hn : kn = true) (h4 : (form == 4) = false) (h1 : (form != 1) = true) (h2 : (form != 2) = false) (g0 : (k == 0) = false) (g1 : (k == 1) = false) (g2 : (k == 2) = true) :
    Calls Try.prog 17 #[.int .i64 k, .int .i64 form] w fun e w' => e = .returned (.bool true) ∧ Below w.heap.size w w' := by
  subst hn
  have hfu := fldU
  go_enter Try.func17, Try.ntmps17
  go_wp2_with fail
  go_at_call 21
  refine c1.mono ?_
  rintro e w1 ⟨x1, x2, x3, x4, x5, x6, x7, x8, rfl, b1⟩
  go_wp2
  go_ret
  exact ⟨rfl, b1⟩
set_option maxRecDepth 20000 in
set_option maxHeartbeats 1000000 in
theorem sf_1_3 (k form : Int) (kn : Bool) (w : World) (c1 : Calls Try.prog 21 #[.int .i64 k] w fun e w' => ∃ x1 x2 x3 x4 x5 x6 x7 x8, e = .returned (.agg #[.bool kn, x1, x2, x3, x4, x5, x6, x7, x8]) ∧ Below w.heap.size w w') (hn : kn = true) (h4 : (form == 4) = false) (h1 : (form != 1) = false) (g0 : (k == 0) = false) (g1 : (k == 1) = false) (g2 : (k == 2) = false) (g6 : (k == 6) = true) :
    Calls Try.prog 17 #[.int .i64 k, .int .i64 form] w fun e w' => e = .returned (.bool true) ∧ Below w.heap.size w w' := by
  subst hn
  have hfu := fldU
  go_enter Try.func17, Try.ntmps17
  go_wp2_with fail
  go_at_call 21
  refine c1.mono ?_
  rintro e w1 ⟨x1, x2, x3, x4, x5, x6, x7, x8, rfl, b1⟩
  go_wp2
  go_ret
  exact ⟨rfl, b1⟩
set_option maxRecDepth 20000 in
set_option maxHeartbeats 1000000 in
theorem sf_2_3 (k form : Int) (kn : Bool) (w : World) (c1 : Calls Try.prog 21 #[.int .i64 k] w fun e w' => ∃ x1 x2 x3 x4 x5 x6 x7 x8, e = .returned (.agg #[.bool kn, x1, x2, x3, x4, x5, x6, x7, x8]) ∧ Below w.heap.size w w') (hn : kn = true) (h4 : (form == 4) = false) (h1 : (form != 1) = true) (h2 : (form != 2) = false) (g0 : (k == 0) = false) (g1 : (k == 1) = false) (g2 : (k == 2) = false) (g6 : (k == 6) = true) :
    Calls Try.prog 17 #[.int .i64 k, .int .i64 form] w fun e w' => e = .returned (.bool true) ∧ Below w.heap.size w w' := by
  subst hn
  have hfu := fldU
  go_enter Try.func17, Try.ntmps17
  go_wp2_with fail
  go_at_call 21
  refine c1.mono ?_
  rintro e w1 ⟨x1, x2, x3, x4, x5, x6, x7, x8, rfl, b1⟩
  go_wp2
  go_ret
  exact ⟨rfl, b1⟩
set_option maxRecDepth 20000 in
set_option maxHeartbeats 1000000 in
theorem sf_1_4 (k form : Int) (kn : Bool) (w : World) (c1 : Calls Try.prog 21 #[.int .i64 k] w fun e w' => ∃ x1 x2 x3 x4 x5 x6 x7 x8, e = .returned (.agg #[.bool kn, x1, x2, x3, x4, x5, x6, x7, x8]) ∧ Below w.heap.size w w') (hn : kn = true) (h4 : (form == 4) = false) (h1 : (form != 1) = false) (g0 : (k == 0) = false) (g1 : (k == 1) = false) (g2 : (k == 2) = false) (g6 : (k == 6) = false) (g28 : (k == 28) = true) :
    Calls Try.prog 17 #[.int .i64 k, .int .i64 form] w fun e w' => e = .returned (.bool true) ∧ Below w.heap.size w w' := by
  subst hn
  have hfu := fldU
  go_enter Try.func17, Try.ntmps17
  go_wp2_with fail
  go_at_call 21
  refine c1.mono ?_
  rintro e w1 ⟨x1, x2, x3, x4, x5, x6, x7, x8, rfl, b1⟩
  go_wp2
  go_ret
  exact ⟨rfl, b1⟩
set_option maxRecDepth 20000 in
set_option maxHeartbeats 1000000 in
theorem sf_2_4 (k form : Int) (kn : Bool) (w : World) (c1 : Calls Try.prog 21 #[.int .i64 k] w fun e w' => ∃ x1 x2 x3 x4 x5 x6 x7 x8, e = .returned (.agg #[.bool kn, x1, x2, x3, x4, x5, x6, x7, x8]) ∧ Below w.heap.size w w') (hn : kn = true) (h4 : (form == 4) = false) (h1 : (form != 1) = true) (h2 : (form != 2) = false) (g0 : (k == 0) = false) (g1 : (k == 1) = false) (g2 : (k == 2) = false) (g6 : (k == 6) = false) (g28 : (k == 28) = true) :
    Calls Try.prog 17 #[.int .i64 k, .int .i64 form] w fun e w' => e = .returned (.bool true) ∧ Below w.heap.size w w' := by
  subst hn
  have hfu := fldU
  go_enter Try.func17, Try.ntmps17
  go_wp2_with fail
  go_at_call 21
  refine c1.mono ?_
  rintro e w1 ⟨x1, x2, x3, x4, x5, x6, x7, x8, rfl, b1⟩
  go_wp2
  go_ret
  exact ⟨rfl, b1⟩
set_option maxRecDepth 20000 in
set_option maxHeartbeats 1000000 in
theorem sf_1_5 (k form : Int) (kn : Bool) (w : World) (c1 : Calls Try.prog 21 #[.int .i64 k] w fun e w' => ∃ x1 x2 x3 x4 x5 x6 x7 x8, e = .returned (.agg #[.bool kn, x1, x2, x3, x4, x5, x6, x7, x8]) ∧ Below w.heap.size w w') (hn : kn = true) (h4 : (form == 4) = false) (h1 : (form != 1) = false) (g0 : (k == 0) = false) (g1 : (k == 1) = false) (g2 : (k == 2) = false) (g6 : (k == 6) = false) (g28 : (k == 28) = false) :
    Calls Try.prog 17 #[.int .i64 k, .int .i64 form] w fun e w' => e = .returned (.bool false) ∧ Below w.heap.size w w' := by
  subst hn
  have hfu := fldU
  go_enter Try.func17, Try.ntmps17
  go_wp2_with fail
  go_at_call 21
  refine c1.mono ?_
  rintro e w1 ⟨x1, x2, x3, x4, x5, x6, x7, x8, rfl, b1⟩
  go_wp2
  go_ret
  exact ⟨rfl, b1⟩
set_option maxRecDepth 20000 in
set_option maxHeartbeats 1000000 in
theorem sf_2_5 (k form : Int) (kn : Bool) (w : World) (c1 : Calls Try.prog 21 #[.int .i64 k] w fun e w' => ∃ x1 x2 x3 x4 x5 x6 x7 x8, e = .returned (.agg #[.bool kn, x1, x2, x3, x4, x5, x6, x7, x8]) ∧ Below w.heap.size w w') (hn : kn = true) (h4 : (form == 4) = false) (h1 : (form != 1) = true) (h2 : (form != 2) = false) (g0 : (k == 0) = false) (g1 : (k == 1) = false) (g2 : (k == 2) = false) (g6 : (k == 6) = false) (g28 : (k == 28) = false) :
    Calls Try.prog 17 #[.int .i64 k, .int .i64 form] w fun e w' => e = .returned (.bool false) ∧ Below w.heap.size w w' := by
  subst hn
  have hfu := fldU
  go_enter Try.func17, Try.ntmps17
  go_wp2_with fail
  go_at_call 21
  refine c1.mono ?_
  rintro e w1 ⟨x1, x2, x3, x4, x5, x6, x7, x8, rfl, b1⟩
  go_wp2
  go_ret
  exact ⟨rfl, b1⟩
theorem specFits (k form : Int) (w : World) : Calls Try.prog 17 #[.int .i64 k, .int .i64 form] w fun e w' => e = .returned (.bool (fitsV k form)) ∧ Below w.heap.size w w' := by
  have c1 := usesC k w
  have hE : decide (k ∈ everyK) = (k == 0 || k == 1 || k == 2 || k == 6 || k == 28) := by rw [Bool.eq_iff_iff]; simp [everyK, or_assoc]
  unfold fitsV
  rw [hE]
  generalize decide (k ∈ kinds) = kn at c1
  cases kn
  · exact sf_none k form false w c1 rfl
  cases h4 : (form == 4)
  · cases h1 : (form != 1)
    · have e1 : (form == 1) = true := by simpa [bne] using h1
      rw [e1]
      cases g0 : (k == 0)
      case true => exact sf_1_0 k form true w c1 rfl h4 h1 g0
      cases g1 : (k == 1)
      case true => exact sf_1_1 k form true w c1 rfl h4 h1 g0 g1
      cases g2 : (k == 2)
      case true => exact sf_1_2 k form true w c1 rfl h4 h1 g0 g1 g2
      cases g6 : (k == 6)
      case true => exact sf_1_3 k form true w c1 rfl h4 h1 g0 g1 g2 g6
      cases g28 : (k == 28)
      case true => exact sf_1_4 k form true w c1 rfl h4 h1 g0 g1 g2 g6 g28
      exact sf_1_5 k form true w c1 rfl h4 h1 g0 g1 g2 g6 g28
    · have e1 : (form == 1) = false := by simpa [bne] using h1
      rw [e1]
      cases h2 : (form != 2)
      · have e2 : (form == 2) = true := by simpa [bne] using h2
        rw [e2]
        cases g0 : (k == 0)
        case true => exact sf_2_0 k form true w c1 rfl h4 h1 h2 g0
        cases g1 : (k == 1)
        case true => exact sf_2_1 k form true w c1 rfl h4 h1 h2 g0 g1
        cases g2 : (k == 2)
        case true => exact sf_2_2 k form true w c1 rfl h4 h1 h2 g0 g1 g2
        cases g6 : (k == 6)
        case true => exact sf_2_3 k form true w c1 rfl h4 h1 h2 g0 g1 g2 g6
        cases g28 : (k == 28)
        case true => exact sf_2_4 k form true w c1 rfl h4 h1 h2 g0 g1 g2 g6 g28
        exact sf_2_5 k form true w c1 rfl h4 h1 h2 g0 g1 g2 g6 g28
      · have e2 : (form == 2) = false := by simpa [bne] using h2
        rw [e2]
        exact sf_other k form true w c1 rfl h4 h1 h2
  · exact sf_short k form true w c1 rfl h4
theorem fnExactFrameFits_walk (kind form : Int) (_ : (Lit.int .i64 kind).wf = true) (_ : (Lit.int .i64 form).wf = true) (w : World) :
    Calls Try.prog 5 #[.int .i64 kind, .int .i64 form] w fun e w' => e = .returned (.bool true) ∧ Below w.heap.size w w' := by
  have c1 := specFits kind form w
  have c2 := implFits kind form
  have hrefl : ((fitsV kind form) != (fitsV kind form)) = false := by simp
  generalize fitsV kind form = s at c1 c2 hrefl
  go_enter Try.func5, Try.ntmps5
  go_wp2_with fail
  go_at_call 17
  refine c1.mono ?_
  rintro e w1 ⟨rfl, b1⟩
  go_wp2_with fail
  go_at_call 18
  refine (c2 _).mono ?_
  rintro e w2 ⟨rfl, b2⟩
  go_wp2
  go_ret
  exact ⟨rfl, b1.trans (b2.mono b1.size)⟩
end Go.Proofs.Ytlbiaiohjohgiaa
