import Derived.Test.YtaodcahkkeobdaaUses
namespace Go.Proofs.Ytaodcahkkeobdaa
open Go.RowKit
set_option linter.unusedVariables false

def kinds : List Int := [0, 1, 2, 4, 5, 6, 7, 8, 16, 17, 18, 20, 21, 22, 24, 25, 26, 27, 28, 29, 30, 48]
def everyK : List Int := [0, 1, 2, 6, 28]
theorem fldU (b : Bool) (x1 x2 x3 x4 x5 x6 x7 x8 : Value) (w : World) : (Instr.field 68 (.agg #[.bool b, x1, x2, x3, x4, x5, x6, x7, x8]) 0).run Try.prog w = .ok (.bool b) w := by kernel_rfl
theorem usesC (k : Int) (w : World) : Calls Try.prog 40 #[.int .i64 k] w fun e w' => ∃ x1 x2 x3 x4 x5 x6 x7 x8, e = .returned (.agg #[.bool (decide (k ∈ kinds)), x1, x2, x3, x4, x5, x6, x7, x8]) ∧ Below w.heap.size w w' := by
  by_cases h : k ∈ kinds
  · rw [decide_eq_true h]
    simp only [kinds, List.mem_cons, List.not_mem_nil, or_false] at h
    rcases h with rfl | rfl | rfl | rfl | rfl | rfl | rfl | rfl | rfl | rfl | rfl | rfl | rfl | rfl | rfl | rfl | rfl | rfl | rfl | rfl | rfl | rfl
    · exact (uses_0 w).mono fun e w' h => ⟨_, _, _, _, _, _, _, _, h.1, h.2⟩
    · exact (uses_1 w).mono fun e w' h => ⟨_, _, _, _, _, _, _, _, h.1, h.2⟩
    · exact (uses_2 w).mono fun e w' h => ⟨_, _, _, _, _, _, _, _, h.1, h.2⟩
    · exact (uses_4 w).mono fun e w' h => ⟨_, _, _, _, _, _, _, _, h.1, h.2⟩
    · exact (uses_5 w).mono fun e w' h => ⟨_, _, _, _, _, _, _, _, h.1, h.2⟩
    · exact (uses_6 w).mono fun e w' h => ⟨_, _, _, _, _, _, _, _, h.1, h.2⟩
    · exact (uses_7 w).mono fun e w' h => ⟨_, _, _, _, _, _, _, _, h.1, h.2⟩
    · exact (uses_8 w).mono fun e w' h => ⟨_, _, _, _, _, _, _, _, h.1, h.2⟩
    · exact (uses_16 w).mono fun e w' h => ⟨_, _, _, _, _, _, _, _, h.1, h.2⟩
    · exact (uses_17 w).mono fun e w' h => ⟨_, _, _, _, _, _, _, _, h.1, h.2⟩
    · exact (uses_18 w).mono fun e w' h => ⟨_, _, _, _, _, _, _, _, h.1, h.2⟩
    · exact (uses_20 w).mono fun e w' h => ⟨_, _, _, _, _, _, _, _, h.1, h.2⟩
    · exact (uses_21 w).mono fun e w' h => ⟨_, _, _, _, _, _, _, _, h.1, h.2⟩
    · exact (uses_22 w).mono fun e w' h => ⟨_, _, _, _, _, _, _, _, h.1, h.2⟩
    · exact (uses_24 w).mono fun e w' h => ⟨_, _, _, _, _, _, _, _, h.1, h.2⟩
    · exact (uses_25 w).mono fun e w' h => ⟨_, _, _, _, _, _, _, _, h.1, h.2⟩
    · exact (uses_26 w).mono fun e w' h => ⟨_, _, _, _, _, _, _, _, h.1, h.2⟩
    · exact (uses_27 w).mono fun e w' h => ⟨_, _, _, _, _, _, _, _, h.1, h.2⟩
    · exact (uses_28 w).mono fun e w' h => ⟨_, _, _, _, _, _, _, _, h.1, h.2⟩
    · exact (uses_29 w).mono fun e w' h => ⟨_, _, _, _, _, _, _, _, h.1, h.2⟩
    · exact (uses_30 w).mono fun e w' h => ⟨_, _, _, _, _, _, _, _, h.1, h.2⟩
    · exact (uses_48 w).mono fun e w' h => ⟨_, _, _, _, _, _, _, _, h.1, h.2⟩
  · rw [decide_eq_false h]
    exact (uses_none k w h).mono fun e w' h => ⟨_, _, _, _, _, _, _, _, h.1, h.2⟩
end Go.Proofs.Ytaodcahkkeobdaa
