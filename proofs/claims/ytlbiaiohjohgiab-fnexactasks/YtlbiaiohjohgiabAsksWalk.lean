import Derived.Test.YtlbiaiohjohgiabBodyB
import Derived.Test.YtlbiaiohjohgiabBodyC
import Derived.Test.YtlbiaiohjohgiabBodyD
import Derived.Test.YtlbiaiohjohgiabBodyE
import Derived.Test.YtlbiaiohjohgiabBodyN
import Derived.Test.YtlbiaiohjohgiabUsesC
import Derived.Test.YtlbiaiohjohgiabAssert
namespace Go.Proofs.Ytlbiaiohjohgiab
open Go.RowKit
set_option linter.unusedVariables false

def asksV (k : Int) : Bool := decide (k ∈ kinds) && k != 0 && k != 2 && k != 28 && k != 29
set_option maxRecDepth 20000 in
set_option maxHeartbeats 1000000 in
theorem iasks_0 (w : World) : Calls Try.prog 5 #[.int .i64 0] w fun e w' => e = .returned (.bool false) ∧ Below w.heap.size w w' := by
  have c1 := body_padding 0 0 0 false none none none 0 0 0 0 0 0 w
  have m_padding := th_padding
  have m_ack := tm_ack
  have m_close := tm_close
  have m_appClose := tm_appClose
  go_enter Try.func5, Try.ntmps5
  go_wp2_with fail
  go_at_call 7
  refine c1.mono ?_
  rintro e w1 ⟨rfl, b1⟩
  go_wp2
  go_ret
  exact ⟨rfl, b1⟩
set_option maxRecDepth 20000 in
set_option maxHeartbeats 1000000 in
theorem iasks_1 (w : World) : Calls Try.prog 5 #[.int .i64 1] w fun e w' => e = .returned (.bool true) ∧ Below w.heap.size w w' := by
  have c1 := body_ping 0 0 0 false none none none 0 0 0 0 0 0 w
  have m_padding := tm_padding
  have m_ack := tm_ack
  have m_close := tm_close
  have m_appClose := tm_appClose
  go_enter Try.func5, Try.ntmps5
  go_wp2_with fail
  go_at_call 7
  refine c1.mono ?_
  rintro e w1 ⟨rfl, b1⟩
  go_wp2
  go_ret
  exact ⟨rfl, b1⟩
set_option maxRecDepth 20000 in
set_option maxHeartbeats 1000000 in
theorem iasks_2 (w : World) : Calls Try.prog 5 #[.int .i64 2] w fun e w' => e = .returned (.bool false) ∧ Below w.heap.size w w' := by
  have c1 := body_ack 0 0 0 false none none none 0 0 0 0 0 0 w
  have m_padding := tm_padding
  have m_ack := th_ack
  have m_close := tm_close
  have m_appClose := tm_appClose
  go_enter Try.func5, Try.ntmps5
  go_wp2_with fail
  go_at_call 7
  refine c1.mono ?_
  rintro e w1 ⟨rfl, b1⟩
  go_wp2
  go_ret
  exact ⟨rfl, b1⟩
set_option maxRecDepth 20000 in
set_option maxHeartbeats 1000000 in
theorem iasks_4 (w : World) : Calls Try.prog 5 #[.int .i64 4] w fun e w' => e = .returned (.bool true) ∧ Below w.heap.size w w' := by
  have c1 := body_reset 0 0 0 false none none none 0 0 0 0 0 0 w
  have m_padding := tm_padding
  have m_ack := tm_ack
  have m_close := tm_close
  have m_appClose := tm_appClose
  go_enter Try.func5, Try.ntmps5
  go_wp2_with fail
  go_at_call 7
  refine c1.mono ?_
  rintro e w1 ⟨rfl, b1⟩
  go_wp2
  go_ret
  exact ⟨rfl, b1⟩
set_option maxRecDepth 20000 in
set_option maxHeartbeats 1000000 in
theorem iasks_5 (w : World) : Calls Try.prog 5 #[.int .i64 5] w fun e w' => e = .returned (.bool true) ∧ Below w.heap.size w w' := by
  have c1 := body_stop 0 0 0 false none none none 0 0 0 0 0 0 w
  have m_padding := tm_padding
  have m_ack := tm_ack
  have m_close := tm_close
  have m_appClose := tm_appClose
  go_enter Try.func5, Try.ntmps5
  go_wp2_with fail
  go_at_call 7
  refine c1.mono ?_
  rintro e w1 ⟨rfl, b1⟩
  go_wp2
  go_ret
  exact ⟨rfl, b1⟩
set_option maxRecDepth 20000 in
set_option maxHeartbeats 1000000 in
theorem iasks_6 (w : World) : Calls Try.prog 5 #[.int .i64 6] w fun e w' => e = .returned (.bool true) ∧ Below w.heap.size w w' := by
  have c1 := body_crypto 0 0 0 false none none none 0 0 0 0 0 0 w
  have m_padding := tm_padding
  have m_ack := tm_ack
  have m_close := tm_close
  have m_appClose := tm_appClose
  go_enter Try.func5, Try.ntmps5
  go_wp2_with fail
  go_at_call 7
  refine c1.mono ?_
  rintro e w1 ⟨rfl, b1⟩
  go_wp2
  go_ret
  exact ⟨rfl, b1⟩
set_option maxRecDepth 20000 in
set_option maxHeartbeats 1000000 in
theorem iasks_7 (w : World) : Calls Try.prog 5 #[.int .i64 7] w fun e w' => e = .returned (.bool true) ∧ Below w.heap.size w w' := by
  have c1 := body_newToken 0 0 0 false none none none 0 0 0 0 0 0 w
  have m_padding := tm_padding
  have m_ack := tm_ack
  have m_close := tm_close
  have m_appClose := tm_appClose
  go_enter Try.func5, Try.ntmps5
  go_wp2_with fail
  go_at_call 7
  refine c1.mono ?_
  rintro e w1 ⟨rfl, b1⟩
  go_wp2
  go_ret
  exact ⟨rfl, b1⟩
set_option maxRecDepth 20000 in
set_option maxHeartbeats 1000000 in
theorem iasks_8 (w : World) : Calls Try.prog 5 #[.int .i64 8] w fun e w' => e = .returned (.bool true) ∧ Below w.heap.size w w' := by
  have c1 := body_stream00 0 0 0 false none none none 0 0 0 0 0 0 w
  have m_padding := tm_padding
  have m_ack := tm_ack
  have m_close := tm_close
  have m_appClose := tm_appClose
  go_enter Try.func5, Try.ntmps5
  go_wp2_with fail
  go_at_call 7
  refine c1.mono ?_
  rintro e w1 ⟨rfl, b1⟩
  go_wp2
  go_ret
  exact ⟨rfl, b1⟩
set_option maxRecDepth 20000 in
set_option maxHeartbeats 1000000 in
theorem iasks_16 (w : World) : Calls Try.prog 5 #[.int .i64 16] w fun e w' => e = .returned (.bool true) ∧ Below w.heap.size w w' := by
  have c1 := body_maxData 0 0 0 false none none none 0 0 0 0 0 0 w
  have m_padding := tm_padding
  have m_ack := tm_ack
  have m_close := tm_close
  have m_appClose := tm_appClose
  go_enter Try.func5, Try.ntmps5
  go_wp2_with fail
  go_at_call 7
  refine c1.mono ?_
  rintro e w1 ⟨rfl, b1⟩
  go_wp2
  go_ret
  exact ⟨rfl, b1⟩
set_option maxRecDepth 20000 in
set_option maxHeartbeats 1000000 in
theorem iasks_17 (w : World) : Calls Try.prog 5 #[.int .i64 17] w fun e w' => e = .returned (.bool true) ∧ Below w.heap.size w w' := by
  have c1 := body_maxStreamData 0 0 0 false none none none 0 0 0 0 0 0 w
  have m_padding := tm_padding
  have m_ack := tm_ack
  have m_close := tm_close
  have m_appClose := tm_appClose
  go_enter Try.func5, Try.ntmps5
  go_wp2_with fail
  go_at_call 7
  refine c1.mono ?_
  rintro e w1 ⟨rfl, b1⟩
  go_wp2
  go_ret
  exact ⟨rfl, b1⟩
set_option maxRecDepth 20000 in
set_option maxHeartbeats 1000000 in
theorem iasks_18 (w : World) : Calls Try.prog 5 #[.int .i64 18] w fun e w' => e = .returned (.bool true) ∧ Below w.heap.size w w' := by
  have c1 := body_maxStreams 0 0 0 false none none none 0 0 0 0 0 0 w (by decide) (by decide)
  have m_padding := tm_padding
  have m_ack := tm_ack
  have m_close := tm_close
  have m_appClose := tm_appClose
  go_enter Try.func5, Try.ntmps5
  go_wp2_with fail
  go_at_call 7
  refine c1.mono ?_
  rintro e w1 ⟨rfl, b1⟩
  go_wp2
  go_ret
  exact ⟨rfl, b1⟩
set_option maxRecDepth 20000 in
set_option maxHeartbeats 1000000 in
theorem iasks_20 (w : World) : Calls Try.prog 5 #[.int .i64 20] w fun e w' => e = .returned (.bool true) ∧ Below w.heap.size w w' := by
  have c1 := body_dataBlocked 0 0 0 false none none none 0 0 0 0 0 0 w
  have m_padding := tm_padding
  have m_ack := tm_ack
  have m_close := tm_close
  have m_appClose := tm_appClose
  go_enter Try.func5, Try.ntmps5
  go_wp2_with fail
  go_at_call 7
  refine c1.mono ?_
  rintro e w1 ⟨rfl, b1⟩
  go_wp2
  go_ret
  exact ⟨rfl, b1⟩
set_option maxRecDepth 20000 in
set_option maxHeartbeats 1000000 in
theorem iasks_21 (w : World) : Calls Try.prog 5 #[.int .i64 21] w fun e w' => e = .returned (.bool true) ∧ Below w.heap.size w w' := by
  have c1 := body_streamBlocked 0 0 0 false none none none 0 0 0 0 0 0 w
  have m_padding := tm_padding
  have m_ack := tm_ack
  have m_close := tm_close
  have m_appClose := tm_appClose
  go_enter Try.func5, Try.ntmps5
  go_wp2_with fail
  go_at_call 7
  refine c1.mono ?_
  rintro e w1 ⟨rfl, b1⟩
  go_wp2
  go_ret
  exact ⟨rfl, b1⟩
set_option maxRecDepth 20000 in
set_option maxHeartbeats 1000000 in
theorem iasks_22 (w : World) : Calls Try.prog 5 #[.int .i64 22] w fun e w' => e = .returned (.bool true) ∧ Below w.heap.size w w' := by
  have c1 := body_streamsBlocked 0 0 0 false none none none 0 0 0 0 0 0 w (by decide) (by decide)
  have m_padding := tm_padding
  have m_ack := tm_ack
  have m_close := tm_close
  have m_appClose := tm_appClose
  go_enter Try.func5, Try.ntmps5
  go_wp2_with fail
  go_at_call 7
  refine c1.mono ?_
  rintro e w1 ⟨rfl, b1⟩
  go_wp2
  go_ret
  exact ⟨rfl, b1⟩
set_option maxRecDepth 20000 in
set_option maxHeartbeats 1000000 in
theorem iasks_24 (w : World) : Calls Try.prog 5 #[.int .i64 24] w fun e w' => e = .returned (.bool true) ∧ Below w.heap.size w w' := by
  have c1 := body_newId 0 0 0 false none none none 0 0 0 0 0 0 w
  have m_padding := tm_padding
  have m_ack := tm_ack
  have m_close := tm_close
  have m_appClose := tm_appClose
  go_enter Try.func5, Try.ntmps5
  go_wp2_with fail
  go_at_call 7
  refine c1.mono ?_
  rintro e w1 ⟨rfl, b1⟩
  go_wp2
  go_ret
  exact ⟨rfl, b1⟩
set_option maxRecDepth 20000 in
set_option maxHeartbeats 1000000 in
theorem iasks_25 (w : World) : Calls Try.prog 5 #[.int .i64 25] w fun e w' => e = .returned (.bool true) ∧ Below w.heap.size w w' := by
  have c1 := body_retireId 0 0 0 false none none none 0 0 0 0 0 0 w
  have m_padding := tm_padding
  have m_ack := tm_ack
  have m_close := tm_close
  have m_appClose := tm_appClose
  go_enter Try.func5, Try.ntmps5
  go_wp2_with fail
  go_at_call 7
  refine c1.mono ?_
  rintro e w1 ⟨rfl, b1⟩
  go_wp2
  go_ret
  exact ⟨rfl, b1⟩
set_option maxRecDepth 20000 in
set_option maxHeartbeats 1000000 in
theorem iasks_26 (w : World) : Calls Try.prog 5 #[.int .i64 26] w fun e w' => e = .returned (.bool true) ∧ Below w.heap.size w w' := by
  have c1 := body_challenge 0 0 0 false none none none 0 0 0 0 0 0 w
  have m_padding := tm_padding
  have m_ack := tm_ack
  have m_close := tm_close
  have m_appClose := tm_appClose
  go_enter Try.func5, Try.ntmps5
  go_wp2_with fail
  go_at_call 7
  refine c1.mono ?_
  rintro e w1 ⟨rfl, b1⟩
  go_wp2
  go_ret
  exact ⟨rfl, b1⟩
set_option maxRecDepth 20000 in
set_option maxHeartbeats 1000000 in
theorem iasks_27 (w : World) : Calls Try.prog 5 #[.int .i64 27] w fun e w' => e = .returned (.bool true) ∧ Below w.heap.size w w' := by
  have c1 := body_response 0 0 0 false none none none 0 0 0 0 0 0 w
  have m_padding := tm_padding
  have m_ack := tm_ack
  have m_close := tm_close
  have m_appClose := tm_appClose
  go_enter Try.func5, Try.ntmps5
  go_wp2_with fail
  go_at_call 7
  refine c1.mono ?_
  rintro e w1 ⟨rfl, b1⟩
  go_wp2
  go_ret
  exact ⟨rfl, b1⟩
set_option maxRecDepth 20000 in
set_option maxHeartbeats 1000000 in
theorem iasks_28 (w : World) : Calls Try.prog 5 #[.int .i64 28] w fun e w' => e = .returned (.bool false) ∧ Below w.heap.size w w' := by
  have c1 := body_close 0 0 0 false none none none 0 0 0 0 0 0 w
  have m_padding := tm_padding
  have m_ack := tm_ack
  have m_close := th_close
  have m_appClose := tm_appClose
  go_enter Try.func5, Try.ntmps5
  go_wp2_with fail
  go_at_call 7
  refine c1.mono ?_
  rintro e w1 ⟨rfl, b1⟩
  go_wp2
  go_ret
  exact ⟨rfl, b1⟩
set_option maxRecDepth 20000 in
set_option maxHeartbeats 1000000 in
theorem iasks_29 (w : World) : Calls Try.prog 5 #[.int .i64 29] w fun e w' => e = .returned (.bool false) ∧ Below w.heap.size w w' := by
  have c1 := body_appClose 0 0 0 false none none none 0 0 0 0 0 0 w
  have m_padding := tm_padding
  have m_ack := tm_ack
  have m_close := tm_close
  have m_appClose := th_appClose
  go_enter Try.func5, Try.ntmps5
  go_wp2_with fail
  go_at_call 7
  refine c1.mono ?_
  rintro e w1 ⟨rfl, b1⟩
  go_wp2
  go_ret
  exact ⟨rfl, b1⟩
set_option maxRecDepth 20000 in
set_option maxHeartbeats 1000000 in
theorem iasks_30 (w : World) : Calls Try.prog 5 #[.int .i64 30] w fun e w' => e = .returned (.bool true) ∧ Below w.heap.size w w' := by
  have c1 := body_done 0 0 0 false none none none 0 0 0 0 0 0 w
  have m_padding := tm_padding
  have m_ack := tm_ack
  have m_close := tm_close
  have m_appClose := tm_appClose
  go_enter Try.func5, Try.ntmps5
  go_wp2_with fail
  go_at_call 7
  refine c1.mono ?_
  rintro e w1 ⟨rfl, b1⟩
  go_wp2
  go_ret
  exact ⟨rfl, b1⟩
set_option maxRecDepth 20000 in
set_option maxHeartbeats 1000000 in
theorem iasks_48 (w : World) : Calls Try.prog 5 #[.int .i64 48] w fun e w' => e = .returned (.bool true) ∧ Below w.heap.size w w' := by
  have c1 := body_datagram 0 0 0 false none none none 0 0 0 0 0 0 w
  have m_padding := tm_padding
  have m_ack := tm_ack
  have m_close := tm_close
  have m_appClose := tm_appClose
  go_enter Try.func5, Try.ntmps5
  go_wp2_with fail
  go_at_call 7
  refine c1.mono ?_
  rintro e w1 ⟨rfl, b1⟩
  go_wp2
  go_ret
  exact ⟨rfl, b1⟩
theorem iasks_none (k : Int) (w : World) (hk : k ∉ kinds) : Calls Try.prog 5 #[.int .i64 k] w fun e w' => e = .returned (.bool false) ∧ Below w.heap.size w w' := by
  have c1 := body_none k 0 0 0 false none none none 0 0 0 0 0 0 w hk
  have m_padding := tn_padding
  have m_ack := tn_ack
  have m_close := tn_close
  have m_appClose := tn_appClose
  go_enter Try.func5, Try.ntmps5
  go_wp2_with fail
  go_at_call 7
  refine c1.mono ?_
  rintro e w1 ⟨rfl, b1⟩
  go_wp2
  go_ret
  exact ⟨rfl, b1⟩
theorem implAsks (k : Int) (w : World) : Calls Try.prog 5 #[.int .i64 k] w fun e w' => e = .returned (.bool (asksV k)) ∧ Below w.heap.size w w' := by
  by_cases h : k ∈ kinds
  · simp only [kinds, List.mem_cons, List.not_mem_nil, or_false] at h
    rcases h with rfl | rfl | rfl | rfl | rfl | rfl | rfl | rfl | rfl | rfl | rfl | rfl | rfl | rfl | rfl | rfl | rfl | rfl | rfl | rfl | rfl | rfl
    · rw [show asksV 0 = false by decide]; exact iasks_0 w
    · rw [show asksV 1 = true by decide]; exact iasks_1 w
    · rw [show asksV 2 = false by decide]; exact iasks_2 w
    · rw [show asksV 4 = true by decide]; exact iasks_4 w
    · rw [show asksV 5 = true by decide]; exact iasks_5 w
    · rw [show asksV 6 = true by decide]; exact iasks_6 w
    · rw [show asksV 7 = true by decide]; exact iasks_7 w
    · rw [show asksV 8 = true by decide]; exact iasks_8 w
    · rw [show asksV 16 = true by decide]; exact iasks_16 w
    · rw [show asksV 17 = true by decide]; exact iasks_17 w
    · rw [show asksV 18 = true by decide]; exact iasks_18 w
    · rw [show asksV 20 = true by decide]; exact iasks_20 w
    · rw [show asksV 21 = true by decide]; exact iasks_21 w
    · rw [show asksV 22 = true by decide]; exact iasks_22 w
    · rw [show asksV 24 = true by decide]; exact iasks_24 w
    · rw [show asksV 25 = true by decide]; exact iasks_25 w
    · rw [show asksV 26 = true by decide]; exact iasks_26 w
    · rw [show asksV 27 = true by decide]; exact iasks_27 w
    · rw [show asksV 28 = false by decide]; exact iasks_28 w
    · rw [show asksV 29 = false by decide]; exact iasks_29 w
    · rw [show asksV 30 = true by decide]; exact iasks_30 w
    · rw [show asksV 48 = true by decide]; exact iasks_48 w
  · rw [show asksV k = false by unfold asksV; rw [decide_eq_false h]; rfl]; exact iasks_none k w h
set_option maxRecDepth 20000 in
set_option maxHeartbeats 1000000 in
theorem sa_none (k : Int) (kn : Bool) (w : World) (c1 : Calls Try.prog 6 #[.int .i64 k] w fun e w' => ∃ x1 x2 x3 x4 x5 x6 x7 x8, e = .returned (.agg #[.bool kn, x1, x2, x3, x4, x5, x6, x7, x8]) ∧ Below w.heap.size w w') (hn : kn = false) :
    Calls Try.prog 4 #[.int .i64 k] w fun e w' => e = .returned (.bool false) ∧ Below w.heap.size w w' := by
  subst hn
  have hfu := fldU
  go_enter Try.func4, Try.ntmps4
  go_wp2_with fail
  go_at_call 6
  refine c1.mono ?_
  rintro e w1 ⟨x1, x2, x3, x4, x5, x6, x7, x8, rfl, b1⟩
  go_wp2
  go_ret
  exact ⟨rfl, b1⟩
set_option maxRecDepth 20000 in
set_option maxHeartbeats 1000000 in
theorem sa_0 (k : Int) (kn : Bool) (w : World) (c1 : Calls Try.prog 6 #[.int .i64 k] w fun e w' => ∃ x1 x2 x3 x4 x5 x6 x7 x8, e = .returned (.agg #[.bool kn, x1, x2, x3, x4, x5, x6, x7, x8]) ∧ Below w.heap.size w w') (hn : kn = true) (g0 : (k != 0) = false) :
    Calls Try.prog 4 #[.int .i64 k] w fun e w' => e = .returned (.bool false) ∧ Below w.heap.size w w' := by
  subst hn
  have hfu := fldU
  go_enter Try.func4, Try.ntmps4
  go_wp2_with fail
  go_at_call 6
  refine c1.mono ?_
  rintro e w1 ⟨x1, x2, x3, x4, x5, x6, x7, x8, rfl, b1⟩
  go_wp2
  go_ret
  exact ⟨rfl, b1⟩
set_option maxRecDepth 20000 in
set_option maxHeartbeats 1000000 in
theorem sa_1 (k : Int) (kn : Bool) (w : World) (c1 : Calls Try.prog 6 #[.int .i64 k] w fun e w' => ∃ x1 x2 x3 x4 x5 x6 x7 x8, e = .returned (.agg #[.bool kn, x1, x2, x3, x4, x5, x6, x7, x8]) ∧ Below w.heap.size w w') (hn : kn = true) (g0 : (k != 0) = true) (g2 : (k != 2) = false) :
    Calls Try.prog 4 #[.int .i64 k] w fun e w' => e = .returned (.bool false) ∧ Below w.heap.size w w' := by
  subst hn
  have hfu := fldU
  go_enter Try.func4, Try.ntmps4
  go_wp2_with fail
  go_at_call 6
  refine c1.mono ?_
  rintro e w1 ⟨x1, x2, x3, x4, x5, x6, x7, x8, rfl, b1⟩
  go_wp2
  go_ret
  exact ⟨rfl, b1⟩
set_option maxRecDepth 20000 in
set_option maxHeartbeats 1000000 in
theorem sa_2 (k : Int) (kn : Bool) (w : World) (c1 : Calls Try.prog 6 #[.int .i64 k] w fun e w' => ∃ x1 x2 x3 x4 x5 x6 x7 x8, e = .returned (.agg #[.bool kn, x1, x2, x3, x4, x5, x6, x7, x8]) ∧ Below w.heap.size w w') (hn : kn = true) (g0 : (k != 0) = true) (g2 : (k != 2) = true) (g28 : (k != 28) = false) :
    Calls Try.prog 4 #[.int .i64 k] w fun e w' => e = .returned (.bool false) ∧ Below w.heap.size w w' := by
  subst hn
  have hfu := fldU
  go_enter Try.func4, Try.ntmps4
  go_wp2_with fail
  go_at_call 6
  refine c1.mono ?_
  rintro e w1 ⟨x1, x2, x3, x4, x5, x6, x7, x8, rfl, b1⟩
  go_wp2
  go_ret
  exact ⟨rfl, b1⟩
set_option maxRecDepth 20000 in
set_option maxHeartbeats 1000000 in
theorem sa_3 (k : Int) (kn : Bool) (w : World) (c1 : Calls Try.prog 6 #[.int .i64 k] w fun e w' => ∃ x1 x2 x3 x4 x5 x6 x7 x8, e = .returned (.agg #[.bool kn, x1, x2, x3, x4, x5, x6, x7, x8]) ∧ Below w.heap.size w w') (hn : kn = true) (g0 : (k != 0) = true) (g2 : (k != 2) = true) (g28 : (k != 28) = true) (g29 : (k != 29) = false) :
    Calls Try.prog 4 #[.int .i64 k] w fun e w' => e = .returned (.bool false) ∧ Below w.heap.size w w' := by
  subst hn
  have hfu := fldU
  go_enter Try.func4, Try.ntmps4
  go_wp2_with fail
  go_at_call 6
  refine c1.mono ?_
  rintro e w1 ⟨x1, x2, x3, x4, x5, x6, x7, x8, rfl, b1⟩
  go_wp2
  go_ret
  exact ⟨rfl, b1⟩
set_option maxRecDepth 20000 in
set_option maxHeartbeats 1000000 in
theorem sa_4 (k : Int) (kn : Bool) (w : World) (c1 : Calls Try.prog 6 #[.int .i64 k] w fun e w' => ∃ x1 x2 x3 x4 x5 x6 x7 x8, e = .returned (.agg #[.bool kn, x1, x2, x3, x4, x5, x6, x7, x8]) ∧ Below w.heap.size w w') (hn : kn = true) (g0 : (k != 0) = true) (g2 : (k != 2) = true) (g28 : (k != 28) = true) (g29 : (k != 29) = true) :
    Calls Try.prog 4 #[.int .i64 k] w fun e w' => e = .returned (.bool true) ∧ Below w.heap.size w w' := by
  subst hn
  have hfu := fldU
  go_enter Try.func4, Try.ntmps4
  go_wp2_with fail
  go_at_call 6
  refine c1.mono ?_
  rintro e w1 ⟨x1, x2, x3, x4, x5, x6, x7, x8, rfl, b1⟩
  go_wp2
  go_ret
  exact ⟨rfl, b1⟩
theorem specAsks (k : Int) (w : World) : Calls Try.prog 4 #[.int .i64 k] w fun e w' => e = .returned (.bool (asksV k)) ∧ Below w.heap.size w w' := by
  have c1 := usesC k w
  unfold asksV
  generalize decide (k ∈ kinds) = kn at c1
  cases kn
  · exact sa_none k false w c1 rfl
  cases g0 : (k != 0)
  case false => exact sa_0 k true w c1 rfl g0
  cases g2 : (k != 2)
  case false => exact sa_1 k true w c1 rfl g0 g2
  cases g28 : (k != 28)
  case false => exact sa_2 k true w c1 rfl g0 g2 g28
  cases g29 : (k != 29)
  case false => exact sa_3 k true w c1 rfl g0 g2 g28 g29
  exact sa_4 k true w c1 rfl g0 g2 g28 g29
theorem fnExactAsks_walk (kind : Int) (_ : (Lit.int .i64 kind).wf = true) (w : World) :
    Calls Try.prog 3 #[.int .i64 kind] w fun e w' => e = .returned (.bool true) ∧ Below w.heap.size w w' := by
  have c1 := specAsks kind w
  have c2 := implAsks kind
  have hrefl : ((asksV kind) != (asksV kind)) = false := by simp
  generalize asksV kind = s at c1 c2 hrefl
  go_enter Try.func3, Try.ntmps3
  go_wp2_with fail
  go_at_call 4
  refine c1.mono ?_
  rintro e w1 ⟨rfl, b1⟩
  go_wp2_with fail
  go_at_call 5
  refine (c2 _).mono ?_
  rintro e w2 ⟨rfl, b2⟩
  go_wp2
  go_ret
  exact ⟨rfl, b1.trans (b2.mono b1.size)⟩
end Go.Proofs.Ytlbiaiohjohgiab
