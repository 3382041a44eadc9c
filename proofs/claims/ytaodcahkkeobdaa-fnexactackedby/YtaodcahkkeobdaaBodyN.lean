import Derived.Test.YtaodcahkkeobdaaBodyA
namespace Go.Proofs.Ytaodcahkkeobdaa
open Go.RowKit
set_option linter.unusedVariables false

set_option maxRecDepth 20000 in
set_option maxHeartbeats 2000000 in
theorem body_none (k : Int) (a b c : Int) (fin : Bool) (ad at' ar : Option Addr) (nd pd nt pt nr pr : Nat) (w : World) (hk : k ∉ ([0, 1, 2, 4, 5, 6, 7, 8, 16, 17, 18, 20, 21, 22, 24, 25, 26, 27, 28, 29, 30, 48] : List Int)) :
    Calls Try.prog 44 #[.agg #[.int .i64 k, .int .i64 a, .int .i64 b, .int .i64 c, .bool fin, .slice ad nd pd, .slice at' nt pt, .slice ar nr pr]] w fun e w' => e = .returned .nilIface ∧ Below w.heap.size w w' := by
  simp only [List.mem_cons, not_or, List.not_mem_nil, not_false_eq_true, and_true] at hk
  obtain ⟨h0, h1, h2, h4, h5, h6, h7, h8, h16, h17, h18, h20, h21, h22, h24, h25, h26, h27, h28, h29, h30, h48⟩ := hk
  replace h0 : (k == 0) = false := by simp [h0]
  replace h1 : (k == 1) = false := by simp [h1]
  replace h2 : (k == 2) = false := by simp [h2]
  replace h4 : (k == 4) = false := by simp [h4]
  replace h5 : (k == 5) = false := by simp [h5]
  replace h6 : (k == 6) = false := by simp [h6]
  replace h7 : (k == 7) = false := by simp [h7]
  replace h8 : (k == 8) = false := by simp [h8]
  replace h16 : (k == 16) = false := by simp [h16]
  replace h17 : (k == 17) = false := by simp [h17]
  replace h18 : (k == 18) = false := by simp [h18]
  replace h20 : (k == 20) = false := by simp [h20]
  replace h21 : (k == 21) = false := by simp [h21]
  replace h22 : (k == 22) = false := by simp [h22]
  replace h24 : (k == 24) = false := by simp [h24]
  replace h25 : (k == 25) = false := by simp [h25]
  replace h26 : (k == 26) = false := by simp [h26]
  replace h27 : (k == 27) = false := by simp [h27]
  replace h28 : (k == 28) = false := by simp [h28]
  replace h29 : (k == 29) = false := by simp [h29]
  replace h30 : (k == 30) = false := by simp [h30]
  replace h48 : (k == 48) = false := by simp [h48]
  have hmf := hmf0
  go_enter Try.func44, Try.ntmps44
  go_wp2
  go_ret
  exact ⟨rfl, al2 _ _ _⟩
end Go.Proofs.Ytaodcahkkeobdaa
