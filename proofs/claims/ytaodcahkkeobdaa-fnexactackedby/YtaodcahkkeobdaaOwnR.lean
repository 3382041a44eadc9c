import Derived.Test.YtaodcahkkeobdaaAssert
import Derived.Test.YtaodcahkkeobdaaRngOK
namespace Go.Proofs.Ytaodcahkkeobdaa
open Go.RowKit
set_option linter.unusedVariables false

set_option maxRecDepth 20000 in
set_option maxHeartbeats 1000000 in
theorem own_ping (v : Value) (w : World) : Calls Try.prog 48 #[.iface 100 (v)] w fun e w' => e = .returned (.bool (true)) ∧ Below w.heap.size w w' := by
  have m_padding := tm_padding
  have m_ping := th_ping
  have m_ack := tm_ack
  have m_reset := tm_reset
  have m_stop := tm_stop
  have m_crypto := tm_crypto
  have m_newToken := tm_newToken
  have m_stream := tm_stream
  have m_maxData := tm_maxData
  have m_maxStreamData := tm_maxStreamData
  have m_maxStreams := tm_maxStreams
  have m_dataBlocked := tm_dataBlocked
  have m_streamBlocked := tm_streamBlocked
  have m_streamsBlocked := tm_streamsBlocked
  have m_newId := tm_newId
  have m_retireId := tm_retireId
  have m_challenge := tm_challenge
  have m_response := tm_response
  have m_close := tm_close
  have m_appClose := tm_appClose
  have m_done := tm_done
  have m_datagram := tm_datagram
  go_enter Try.func48, Try.ntmps48
  go_wp2
  go_ret
  exact ⟨rfl, Below.refl _ _⟩
set_option maxRecDepth 20000 in
set_option maxHeartbeats 1000000 in
theorem own_reset (v : Value) (w : World) : Calls Try.prog 48 #[.iface 103 (v)] w fun e w' => e = .returned (.bool (true)) ∧ Below w.heap.size w w' := by
  have m_padding := tm_padding
  have m_ping := tm_ping
  have m_ack := tm_ack
  have m_reset := th_reset
  have m_stop := tm_stop
  have m_crypto := tm_crypto
  have m_newToken := tm_newToken
  have m_stream := tm_stream
  have m_maxData := tm_maxData
  have m_maxStreamData := tm_maxStreamData
  have m_maxStreams := tm_maxStreams
  have m_dataBlocked := tm_dataBlocked
  have m_streamBlocked := tm_streamBlocked
  have m_streamsBlocked := tm_streamsBlocked
  have m_newId := tm_newId
  have m_retireId := tm_retireId
  have m_challenge := tm_challenge
  have m_response := tm_response
  have m_close := tm_close
  have m_appClose := tm_appClose
  have m_done := tm_done
  have m_datagram := tm_datagram
  go_enter Try.func48, Try.ntmps48
  go_wp2
  go_ret
  exact ⟨rfl, Below.refl _ _⟩
set_option maxRecDepth 20000 in
set_option maxHeartbeats 1000000 in
theorem own_stop (v : Value) (w : World) : Calls Try.prog 48 #[.iface 104 (v)] w fun e w' => e = .returned (.bool (true)) ∧ Below w.heap.size w w' := by
  have m_padding := tm_padding
  have m_ping := tm_ping
  have m_ack := tm_ack
  have m_reset := tm_reset
  have m_stop := th_stop
  have m_crypto := tm_crypto
  have m_newToken := tm_newToken
  have m_stream := tm_stream
  have m_maxData := tm_maxData
  have m_maxStreamData := tm_maxStreamData
  have m_maxStreams := tm_maxStreams
  have m_dataBlocked := tm_dataBlocked
  have m_streamBlocked := tm_streamBlocked
  have m_streamsBlocked := tm_streamsBlocked
  have m_newId := tm_newId
  have m_retireId := tm_retireId
  have m_challenge := tm_challenge
  have m_response := tm_response
  have m_close := tm_close
  have m_appClose := tm_appClose
  have m_done := tm_done
  have m_datagram := tm_datagram
  go_enter Try.func48, Try.ntmps48
  go_wp2
  go_ret
  exact ⟨rfl, Below.refl _ _⟩
set_option maxRecDepth 20000 in
set_option maxHeartbeats 1000000 in
theorem own_newToken (v : Value) (w : World) : Calls Try.prog 48 #[.iface 108 (v)] w fun e w' => e = .returned (.bool (true)) ∧ Below w.heap.size w w' := by
  have m_padding := tm_padding
  have m_ping := tm_ping
  have m_ack := tm_ack
  have m_reset := tm_reset
  have m_stop := tm_stop
  have m_crypto := tm_crypto
  have m_newToken := th_newToken
  have m_stream := tm_stream
  have m_maxData := tm_maxData
  have m_maxStreamData := tm_maxStreamData
  have m_maxStreams := tm_maxStreams
  have m_dataBlocked := tm_dataBlocked
  have m_streamBlocked := tm_streamBlocked
  have m_streamsBlocked := tm_streamsBlocked
  have m_newId := tm_newId
  have m_retireId := tm_retireId
  have m_challenge := tm_challenge
  have m_response := tm_response
  have m_close := tm_close
  have m_appClose := tm_appClose
  have m_done := tm_done
  have m_datagram := tm_datagram
  go_enter Try.func48, Try.ntmps48
  go_wp2
  go_ret
  exact ⟨rfl, Below.refl _ _⟩
set_option maxRecDepth 20000 in
set_option maxHeartbeats 1000000 in
theorem own_maxData (v : Value) (w : World) : Calls Try.prog 48 #[.iface 111 (v)] w fun e w' => e = .returned (.bool (true)) ∧ Below w.heap.size w w' := by
  have m_padding := tm_padding
  have m_ping := tm_ping
  have m_ack := tm_ack
  have m_reset := tm_reset
  have m_stop := tm_stop
  have m_crypto := tm_crypto
  have m_newToken := tm_newToken
  have m_stream := tm_stream
  have m_maxData := th_maxData
  have m_maxStreamData := tm_maxStreamData
  have m_maxStreams := tm_maxStreams
  have m_dataBlocked := tm_dataBlocked
  have m_streamBlocked := tm_streamBlocked
  have m_streamsBlocked := tm_streamsBlocked
  have m_newId := tm_newId
  have m_retireId := tm_retireId
  have m_challenge := tm_challenge
  have m_response := tm_response
  have m_close := tm_close
  have m_appClose := tm_appClose
  have m_done := tm_done
  have m_datagram := tm_datagram
  go_enter Try.func48, Try.ntmps48
  go_wp2
  go_ret
  exact ⟨rfl, Below.refl _ _⟩
set_option maxRecDepth 20000 in
set_option maxHeartbeats 1000000 in
theorem own_maxStreamData (v : Value) (w : World) : Calls Try.prog 48 #[.iface 112 (v)] w fun e w' => e = .returned (.bool (true)) ∧ Below w.heap.size w w' := by
  have m_padding := tm_padding
  have m_ping := tm_ping
  have m_ack := tm_ack
  have m_reset := tm_reset
  have m_stop := tm_stop
  have m_crypto := tm_crypto
  have m_newToken := tm_newToken
  have m_stream := tm_stream
  have m_maxData := tm_maxData
  have m_maxStreamData := th_maxStreamData
  have m_maxStreams := tm_maxStreams
  have m_dataBlocked := tm_dataBlocked
  have m_streamBlocked := tm_streamBlocked
  have m_streamsBlocked := tm_streamsBlocked
  have m_newId := tm_newId
  have m_retireId := tm_retireId
  have m_challenge := tm_challenge
  have m_response := tm_response
  have m_close := tm_close
  have m_appClose := tm_appClose
  have m_done := tm_done
  have m_datagram := tm_datagram
  go_enter Try.func48, Try.ntmps48
  go_wp2
  go_ret
  exact ⟨rfl, Below.refl _ _⟩
set_option maxRecDepth 20000 in
set_option maxHeartbeats 1000000 in
theorem own_dataBlocked (v : Value) (w : World) : Calls Try.prog 48 #[.iface 115 (v)] w fun e w' => e = .returned (.bool (true)) ∧ Below w.heap.size w w' := by
  have m_padding := tm_padding
  have m_ping := tm_ping
  have m_ack := tm_ack
  have m_reset := tm_reset
  have m_stop := tm_stop
  have m_crypto := tm_crypto
  have m_newToken := tm_newToken
  have m_stream := tm_stream
  have m_maxData := tm_maxData
  have m_maxStreamData := tm_maxStreamData
  have m_maxStreams := tm_maxStreams
  have m_dataBlocked := th_dataBlocked
  have m_streamBlocked := tm_streamBlocked
  have m_streamsBlocked := tm_streamsBlocked
  have m_newId := tm_newId
  have m_retireId := tm_retireId
  have m_challenge := tm_challenge
  have m_response := tm_response
  have m_close := tm_close
  have m_appClose := tm_appClose
  have m_done := tm_done
  have m_datagram := tm_datagram
  go_enter Try.func48, Try.ntmps48
  go_wp2
  go_ret
  exact ⟨rfl, Below.refl _ _⟩
set_option maxRecDepth 20000 in
set_option maxHeartbeats 1000000 in
theorem own_streamBlocked (v : Value) (w : World) : Calls Try.prog 48 #[.iface 116 (v)] w fun e w' => e = .returned (.bool (true)) ∧ Below w.heap.size w w' := by
  have m_padding := tm_padding
  have m_ping := tm_ping
  have m_ack := tm_ack
  have m_reset := tm_reset
  have m_stop := tm_stop
  have m_crypto := tm_crypto
  have m_newToken := tm_newToken
  have m_stream := tm_stream
  have m_maxData := tm_maxData
  have m_maxStreamData := tm_maxStreamData
  have m_maxStreams := tm_maxStreams
  have m_dataBlocked := tm_dataBlocked
  have m_streamBlocked := th_streamBlocked
  have m_streamsBlocked := tm_streamsBlocked
  have m_newId := tm_newId
  have m_retireId := tm_retireId
  have m_challenge := tm_challenge
  have m_response := tm_response
  have m_close := tm_close
  have m_appClose := tm_appClose
  have m_done := tm_done
  have m_datagram := tm_datagram
  go_enter Try.func48, Try.ntmps48
  go_wp2
  go_ret
  exact ⟨rfl, Below.refl _ _⟩
set_option maxRecDepth 20000 in
set_option maxHeartbeats 1000000 in
theorem own_retireId (v : Value) (w : World) : Calls Try.prog 48 #[.iface 119 (v)] w fun e w' => e = .returned (.bool (true)) ∧ Below w.heap.size w w' := by
  have m_padding := tm_padding
  have m_ping := tm_ping
  have m_ack := tm_ack
  have m_reset := tm_reset
  have m_stop := tm_stop
  have m_crypto := tm_crypto
  have m_newToken := tm_newToken
  have m_stream := tm_stream
  have m_maxData := tm_maxData
  have m_maxStreamData := tm_maxStreamData
  have m_maxStreams := tm_maxStreams
  have m_dataBlocked := tm_dataBlocked
  have m_streamBlocked := tm_streamBlocked
  have m_streamsBlocked := tm_streamsBlocked
  have m_newId := tm_newId
  have m_retireId := th_retireId
  have m_challenge := tm_challenge
  have m_response := tm_response
  have m_close := tm_close
  have m_appClose := tm_appClose
  have m_done := tm_done
  have m_datagram := tm_datagram
  go_enter Try.func48, Try.ntmps48
  go_wp2
  go_ret
  exact ⟨rfl, Below.refl _ _⟩
set_option maxRecDepth 20000 in
set_option maxHeartbeats 1000000 in
theorem own_challenge (v : Value) (w : World) : Calls Try.prog 48 #[.iface 124 (v)] w fun e w' => e = .returned (.bool (true)) ∧ Below w.heap.size w w' := by
  have m_padding := tm_padding
  have m_ping := tm_ping
  have m_ack := tm_ack
  have m_reset := tm_reset
  have m_stop := tm_stop
  have m_crypto := tm_crypto
  have m_newToken := tm_newToken
  have m_stream := tm_stream
  have m_maxData := tm_maxData
  have m_maxStreamData := tm_maxStreamData
  have m_maxStreams := tm_maxStreams
  have m_dataBlocked := tm_dataBlocked
  have m_streamBlocked := tm_streamBlocked
  have m_streamsBlocked := tm_streamsBlocked
  have m_newId := tm_newId
  have m_retireId := tm_retireId
  have m_challenge := th_challenge
  have m_response := tm_response
  have m_close := tm_close
  have m_appClose := tm_appClose
  have m_done := tm_done
  have m_datagram := tm_datagram
  go_enter Try.func48, Try.ntmps48
  go_wp2
  go_ret
  exact ⟨rfl, Below.refl _ _⟩
set_option maxRecDepth 20000 in
set_option maxHeartbeats 1000000 in
theorem own_response (v : Value) (w : World) : Calls Try.prog 48 #[.iface 125 (v)] w fun e w' => e = .returned (.bool (true)) ∧ Below w.heap.size w w' := by
  have m_padding := tm_padding
  have m_ping := tm_ping
  have m_ack := tm_ack
  have m_reset := tm_reset
  have m_stop := tm_stop
  have m_crypto := tm_crypto
  have m_newToken := tm_newToken
  have m_stream := tm_stream
  have m_maxData := tm_maxData
  have m_maxStreamData := tm_maxStreamData
  have m_maxStreams := tm_maxStreams
  have m_dataBlocked := tm_dataBlocked
  have m_streamBlocked := tm_streamBlocked
  have m_streamsBlocked := tm_streamsBlocked
  have m_newId := tm_newId
  have m_retireId := tm_retireId
  have m_challenge := tm_challenge
  have m_response := th_response
  have m_close := tm_close
  have m_appClose := tm_appClose
  have m_done := tm_done
  have m_datagram := tm_datagram
  go_enter Try.func48, Try.ntmps48
  go_wp2
  go_ret
  exact ⟨rfl, Below.refl _ _⟩
set_option maxRecDepth 20000 in
set_option maxHeartbeats 1000000 in
theorem own_close (v : Value) (w : World) : Calls Try.prog 48 #[.iface 126 (v)] w fun e w' => e = .returned (.bool (true)) ∧ Below w.heap.size w w' := by
  have m_padding := tm_padding
  have m_ping := tm_ping
  have m_ack := tm_ack
  have m_reset := tm_reset
  have m_stop := tm_stop
  have m_crypto := tm_crypto
  have m_newToken := tm_newToken
  have m_stream := tm_stream
  have m_maxData := tm_maxData
  have m_maxStreamData := tm_maxStreamData
  have m_maxStreams := tm_maxStreams
  have m_dataBlocked := tm_dataBlocked
  have m_streamBlocked := tm_streamBlocked
  have m_streamsBlocked := tm_streamsBlocked
  have m_newId := tm_newId
  have m_retireId := tm_retireId
  have m_challenge := tm_challenge
  have m_response := tm_response
  have m_close := th_close
  have m_appClose := tm_appClose
  have m_done := tm_done
  have m_datagram := tm_datagram
  go_enter Try.func48, Try.ntmps48
  go_wp2
  go_ret
  exact ⟨rfl, Below.refl _ _⟩
set_option maxRecDepth 20000 in
set_option maxHeartbeats 1000000 in
theorem own_appClose (v : Value) (w : World) : Calls Try.prog 48 #[.iface 127 (v)] w fun e w' => e = .returned (.bool (true)) ∧ Below w.heap.size w w' := by
  have m_padding := tm_padding
  have m_ping := tm_ping
  have m_ack := tm_ack
  have m_reset := tm_reset
  have m_stop := tm_stop
  have m_crypto := tm_crypto
  have m_newToken := tm_newToken
  have m_stream := tm_stream
  have m_maxData := tm_maxData
  have m_maxStreamData := tm_maxStreamData
  have m_maxStreams := tm_maxStreams
  have m_dataBlocked := tm_dataBlocked
  have m_streamBlocked := tm_streamBlocked
  have m_streamsBlocked := tm_streamsBlocked
  have m_newId := tm_newId
  have m_retireId := tm_retireId
  have m_challenge := tm_challenge
  have m_response := tm_response
  have m_close := tm_close
  have m_appClose := th_appClose
  have m_done := tm_done
  have m_datagram := tm_datagram
  go_enter Try.func48, Try.ntmps48
  go_wp2
  go_ret
  exact ⟨rfl, Below.refl _ _⟩
set_option maxRecDepth 20000 in
set_option maxHeartbeats 1000000 in
theorem own_done (v : Value) (w : World) : Calls Try.prog 48 #[.iface 128 (v)] w fun e w' => e = .returned (.bool (true)) ∧ Below w.heap.size w w' := by
  have m_padding := tm_padding
  have m_ping := tm_ping
  have m_ack := tm_ack
  have m_reset := tm_reset
  have m_stop := tm_stop
  have m_crypto := tm_crypto
  have m_newToken := tm_newToken
  have m_stream := tm_stream
  have m_maxData := tm_maxData
  have m_maxStreamData := tm_maxStreamData
  have m_maxStreams := tm_maxStreams
  have m_dataBlocked := tm_dataBlocked
  have m_streamBlocked := tm_streamBlocked
  have m_streamsBlocked := tm_streamsBlocked
  have m_newId := tm_newId
  have m_retireId := tm_retireId
  have m_challenge := tm_challenge
  have m_response := tm_response
  have m_close := tm_close
  have m_appClose := tm_appClose
  have m_done := th_done
  have m_datagram := tm_datagram
  go_enter Try.func48, Try.ntmps48
  go_wp2
  go_ret
  exact ⟨rfl, Below.refl _ _⟩
set_option maxRecDepth 20000 in
set_option maxHeartbeats 1000000 in
theorem own_datagram (v : Value) (w : World) : Calls Try.prog 48 #[.iface 129 (v)] w fun e w' => e = .returned (.bool (true)) ∧ Below w.heap.size w w' := by
  have m_padding := tm_padding
  have m_ping := tm_ping
  have m_ack := tm_ack
  have m_reset := tm_reset
  have m_stop := tm_stop
  have m_crypto := tm_crypto
  have m_newToken := tm_newToken
  have m_stream := tm_stream
  have m_maxData := tm_maxData
  have m_maxStreamData := tm_maxStreamData
  have m_maxStreams := tm_maxStreams
  have m_dataBlocked := tm_dataBlocked
  have m_streamBlocked := tm_streamBlocked
  have m_streamsBlocked := tm_streamsBlocked
  have m_newId := tm_newId
  have m_retireId := tm_retireId
  have m_challenge := tm_challenge
  have m_response := tm_response
  have m_close := tm_close
  have m_appClose := tm_appClose
  have m_done := tm_done
  have m_datagram := th_datagram
  go_enter Try.func48, Try.ntmps48
  go_wp2
  go_ret
  exact ⟨rfl, Below.refl _ _⟩
set_option maxRecDepth 20000 in
set_option maxHeartbeats 1000000 in
theorem own_padding_n (k a b c : Int) (fin : Bool) (ad at' ar : Option Addr) (nd pd nt pt nr pr : Nat) (w : World) (h : ¬ 1 ≤ a) : Calls Try.prog 48 #[.iface 98 (.agg #[.int .i64 k, .int .i64 a, .int .i64 b, .int .i64 c, .bool fin, .slice ad nd pd, .slice at' nt pt, .slice ar nr pr])] w fun e w' => e = .returned (.bool (false)) ∧ Below w.heap.size w w' := by
  replace h : decide (1 ≤ a) = false := decide_eq_false h
  have m_padding := th_padding
  have m_ping := tm_ping
  have m_ack := tm_ack
  have m_reset := tm_reset
  have m_stop := tm_stop
  have m_crypto := tm_crypto
  have m_newToken := tm_newToken
  have m_stream := tm_stream
  have m_maxData := tm_maxData
  have m_maxStreamData := tm_maxStreamData
  have m_maxStreams := tm_maxStreams
  have m_dataBlocked := tm_dataBlocked
  have m_streamBlocked := tm_streamBlocked
  have m_streamsBlocked := tm_streamsBlocked
  have m_newId := tm_newId
  have m_retireId := tm_retireId
  have m_challenge := tm_challenge
  have m_response := tm_response
  have m_close := tm_close
  have m_appClose := tm_appClose
  have m_done := tm_done
  have m_datagram := tm_datagram
  go_enter Try.func48, Try.ntmps48
  go_wp2
  go_ret
  exact ⟨rfl, (Below.refl _ _).alloc (Nat.le_refl _) _⟩
set_option maxRecDepth 20000 in
set_option maxHeartbeats 1000000 in
theorem own_padding_y (k a b c : Int) (fin : Bool) (ad at' ar : Option Addr) (nd pd nt pt nr pr : Nat) (w : World) (h : 1 ≤ a) : Calls Try.prog 48 #[.iface 98 (.agg #[.int .i64 k, .int .i64 a, .int .i64 b, .int .i64 c, .bool fin, .slice ad nd pd, .slice at' nt pt, .slice ar nr pr])] w fun e w' => e = .returned (.bool (decide (a ≤ 1500))) ∧ Below w.heap.size w w' := by
  have hd : decide (1 ≤ a) = true := decide_eq_true h
  have m_padding := th_padding
  have m_ping := tm_ping
  have m_ack := tm_ack
  have m_reset := tm_reset
  have m_stop := tm_stop
  have m_crypto := tm_crypto
  have m_newToken := tm_newToken
  have m_stream := tm_stream
  have m_maxData := tm_maxData
  have m_maxStreamData := tm_maxStreamData
  have m_maxStreams := tm_maxStreams
  have m_dataBlocked := tm_dataBlocked
  have m_streamBlocked := tm_streamBlocked
  have m_streamsBlocked := tm_streamsBlocked
  have m_newId := tm_newId
  have m_retireId := tm_retireId
  have m_challenge := tm_challenge
  have m_response := tm_response
  have m_close := tm_close
  have m_appClose := tm_appClose
  have m_done := tm_done
  have m_datagram := tm_datagram
  go_enter Try.func48, Try.ntmps48
  go_wp2
  go_ret
  exact ⟨rfl, (Below.refl _ _).alloc (Nat.le_refl _) _⟩
theorem own_padding (k a b c : Int) (fin : Bool) (ad at' ar : Option Addr) (nd pd nt pt nr pr : Nat) (w : World) : Calls Try.prog 48 #[.iface 98 (.agg #[.int .i64 k, .int .i64 a, .int .i64 b, .int .i64 c, .bool fin, .slice ad nd pd, .slice at' nt pt, .slice ar nr pr])] w fun e w' => e = .returned (.bool (decide (1 ≤ a) && decide (a ≤ 1500))) ∧ Below w.heap.size w w' := by
  by_cases h : 1 ≤ a
  · rw [decide_eq_true h, Bool.true_and]; exact own_padding_y k a b c fin ad at' ar nd pd nt pt nr pr w h
  · rw [decide_eq_false h, Bool.false_and]; exact own_padding_n k a b c fin ad at' ar nd pd nt pt nr pr w h
set_option maxRecDepth 20000 in
set_option maxHeartbeats 1000000 in
theorem own_maxStreams_n (k a b c : Int) (fin : Bool) (ad at' ar : Option Addr) (nd pd nt pt nr pr : Nat) (f g : Int) (w : World) (h : ¬ a ≤ 1152921504606846976) : Calls Try.prog 48 #[.iface 114 (.agg #[.int .i64 k, .int .i64 a, .int .i64 b, .int .i64 c, .bool fin, .slice ad nd pd, .slice at' nt pt, .slice ar nr pr, .int .i64 f, .int .i64 g])] w fun e w' => e = .returned (.bool (false)) ∧ Below w.heap.size w w' := by
  replace h : decide (a ≤ 1152921504606846976) = false := decide_eq_false h
  have m_padding := tm_padding
  have m_ping := tm_ping
  have m_ack := tm_ack
  have m_reset := tm_reset
  have m_stop := tm_stop
  have m_crypto := tm_crypto
  have m_newToken := tm_newToken
  have m_stream := tm_stream
  have m_maxData := tm_maxData
  have m_maxStreamData := tm_maxStreamData
  have m_maxStreams := th_maxStreams
  have m_dataBlocked := tm_dataBlocked
  have m_streamBlocked := tm_streamBlocked
  have m_streamsBlocked := tm_streamsBlocked
  have m_newId := tm_newId
  have m_retireId := tm_retireId
  have m_challenge := tm_challenge
  have m_response := tm_response
  have m_close := tm_close
  have m_appClose := tm_appClose
  have m_done := tm_done
  have m_datagram := tm_datagram
  go_enter Try.func48, Try.ntmps48
  go_wp2
  go_ret
  exact ⟨rfl, (Below.refl _ _).alloc (Nat.le_refl _) _⟩
set_option maxRecDepth 20000 in
set_option maxHeartbeats 1000000 in
theorem own_maxStreams_y (k a b c : Int) (fin : Bool) (ad at' ar : Option Addr) (nd pd nt pt nr pr : Nat) (f g : Int) (w : World) (h : a ≤ 1152921504606846976) : Calls Try.prog 48 #[.iface 114 (.agg #[.int .i64 k, .int .i64 a, .int .i64 b, .int .i64 c, .bool fin, .slice ad nd pd, .slice at' nt pt, .slice ar nr pr, .int .i64 f, .int .i64 g])] w fun e w' => e = .returned (.bool (decide (b ≤ 1))) ∧ Below w.heap.size w w' := by
  have hd : decide (a ≤ 1152921504606846976) = true := decide_eq_true h
  have m_padding := tm_padding
  have m_ping := tm_ping
  have m_ack := tm_ack
  have m_reset := tm_reset
  have m_stop := tm_stop
  have m_crypto := tm_crypto
  have m_newToken := tm_newToken
  have m_stream := tm_stream
  have m_maxData := tm_maxData
  have m_maxStreamData := tm_maxStreamData
  have m_maxStreams := th_maxStreams
  have m_dataBlocked := tm_dataBlocked
  have m_streamBlocked := tm_streamBlocked
  have m_streamsBlocked := tm_streamsBlocked
  have m_newId := tm_newId
  have m_retireId := tm_retireId
  have m_challenge := tm_challenge
  have m_response := tm_response
  have m_close := tm_close
  have m_appClose := tm_appClose
  have m_done := tm_done
  have m_datagram := tm_datagram
  go_enter Try.func48, Try.ntmps48
  go_wp2
  go_ret
  exact ⟨rfl, (Below.refl _ _).alloc (Nat.le_refl _) _⟩
theorem own_maxStreams (k a b c : Int) (fin : Bool) (ad at' ar : Option Addr) (nd pd nt pt nr pr : Nat) (f g : Int) (w : World) : Calls Try.prog 48 #[.iface 114 (.agg #[.int .i64 k, .int .i64 a, .int .i64 b, .int .i64 c, .bool fin, .slice ad nd pd, .slice at' nt pt, .slice ar nr pr, .int .i64 f, .int .i64 g])] w fun e w' => e = .returned (.bool (decide (a ≤ 1152921504606846976) && decide (b ≤ 1))) ∧ Below w.heap.size w w' := by
  by_cases h : a ≤ 1152921504606846976
  · rw [decide_eq_true h, Bool.true_and]; exact own_maxStreams_y k a b c fin ad at' ar nd pd nt pt nr pr f g w h
  · rw [decide_eq_false h, Bool.false_and]; exact own_maxStreams_n k a b c fin ad at' ar nd pd nt pt nr pr f g w h
set_option maxRecDepth 20000 in
set_option maxHeartbeats 1000000 in
theorem own_streamsBlocked_n (k a b c : Int) (fin : Bool) (ad at' ar : Option Addr) (nd pd nt pt nr pr : Nat) (f g : Int) (w : World) (h : ¬ a ≤ 1152921504606846976) : Calls Try.prog 48 #[.iface 117 (.agg #[.int .i64 k, .int .i64 a, .int .i64 b, .int .i64 c, .bool fin, .slice ad nd pd, .slice at' nt pt, .slice ar nr pr, .int .i64 f, .int .i64 g])] w fun e w' => e = .returned (.bool (false)) ∧ Below w.heap.size w w' := by
  replace h : decide (a ≤ 1152921504606846976) = false := decide_eq_false h
  have m_padding := tm_padding
  have m_ping := tm_ping
  have m_ack := tm_ack
  have m_reset := tm_reset
  have m_stop := tm_stop
  have m_crypto := tm_crypto
  have m_newToken := tm_newToken
  have m_stream := tm_stream
  have m_maxData := tm_maxData
  have m_maxStreamData := tm_maxStreamData
  have m_maxStreams := tm_maxStreams
  have m_dataBlocked := tm_dataBlocked
  have m_streamBlocked := tm_streamBlocked
  have m_streamsBlocked := th_streamsBlocked
  have m_newId := tm_newId
  have m_retireId := tm_retireId
  have m_challenge := tm_challenge
  have m_response := tm_response
  have m_close := tm_close
  have m_appClose := tm_appClose
  have m_done := tm_done
  have m_datagram := tm_datagram
  go_enter Try.func48, Try.ntmps48
  go_wp2
  go_ret
  exact ⟨rfl, (Below.refl _ _).alloc (Nat.le_refl _) _⟩
set_option maxRecDepth 20000 in
set_option maxHeartbeats 1000000 in
theorem own_streamsBlocked_y (k a b c : Int) (fin : Bool) (ad at' ar : Option Addr) (nd pd nt pt nr pr : Nat) (f g : Int) (w : World) (h : a ≤ 1152921504606846976) : Calls Try.prog 48 #[.iface 117 (.agg #[.int .i64 k, .int .i64 a, .int .i64 b, .int .i64 c, .bool fin, .slice ad nd pd, .slice at' nt pt, .slice ar nr pr, .int .i64 f, .int .i64 g])] w fun e w' => e = .returned (.bool (decide (b ≤ 1))) ∧ Below w.heap.size w w' := by
  have hd : decide (a ≤ 1152921504606846976) = true := decide_eq_true h
  have m_padding := tm_padding
  have m_ping := tm_ping
  have m_ack := tm_ack
  have m_reset := tm_reset
  have m_stop := tm_stop
  have m_crypto := tm_crypto
  have m_newToken := tm_newToken
  have m_stream := tm_stream
  have m_maxData := tm_maxData
  have m_maxStreamData := tm_maxStreamData
  have m_maxStreams := tm_maxStreams
  have m_dataBlocked := tm_dataBlocked
  have m_streamBlocked := tm_streamBlocked
  have m_streamsBlocked := th_streamsBlocked
  have m_newId := tm_newId
  have m_retireId := tm_retireId
  have m_challenge := tm_challenge
  have m_response := tm_response
  have m_close := tm_close
  have m_appClose := tm_appClose
  have m_done := tm_done
  have m_datagram := tm_datagram
  go_enter Try.func48, Try.ntmps48
  go_wp2
  go_ret
  exact ⟨rfl, (Below.refl _ _).alloc (Nat.le_refl _) _⟩
theorem own_streamsBlocked (k a b c : Int) (fin : Bool) (ad at' ar : Option Addr) (nd pd nt pt nr pr : Nat) (f g : Int) (w : World) : Calls Try.prog 48 #[.iface 117 (.agg #[.int .i64 k, .int .i64 a, .int .i64 b, .int .i64 c, .bool fin, .slice ad nd pd, .slice at' nt pt, .slice ar nr pr, .int .i64 f, .int .i64 g])] w fun e w' => e = .returned (.bool (decide (a ≤ 1152921504606846976) && decide (b ≤ 1))) ∧ Below w.heap.size w w' := by
  by_cases h : a ≤ 1152921504606846976
  · rw [decide_eq_true h, Bool.true_and]; exact own_streamsBlocked_y k a b c fin ad at' ar nd pd nt pt nr pr f g w h
  · rw [decide_eq_false h, Bool.false_and]; exact own_streamsBlocked_n k a b c fin ad at' ar nd pd nt pt nr pr f g w h
set_option maxRecDepth 20000 in
set_option maxHeartbeats 1000000 in
theorem own_newId_n (k a b c : Int) (fin : Bool) (ad at' ar : Option Addr) (nd pd nt pt nr pr : Nat) (f g : Int) (w : World) (h : ¬ b ≤ a) : Calls Try.prog 48 #[.iface 118 (.agg #[.int .i64 k, .int .i64 a, .int .i64 b, .int .i64 c, .bool fin, .slice ad nd pd, .slice at' nt pt, .slice ar nr pr, .int .i64 f, .int .i64 g])] w fun e w' => e = .returned (.bool (false)) ∧ Below w.heap.size w w' := by
  replace h : decide (b ≤ a) = false := decide_eq_false h
  have m_padding := tm_padding
  have m_ping := tm_ping
  have m_ack := tm_ack
  have m_reset := tm_reset
  have m_stop := tm_stop
  have m_crypto := tm_crypto
  have m_newToken := tm_newToken
  have m_stream := tm_stream
  have m_maxData := tm_maxData
  have m_maxStreamData := tm_maxStreamData
  have m_maxStreams := tm_maxStreams
  have m_dataBlocked := tm_dataBlocked
  have m_streamBlocked := tm_streamBlocked
  have m_streamsBlocked := tm_streamsBlocked
  have m_newId := th_newId
  have m_retireId := tm_retireId
  have m_challenge := tm_challenge
  have m_response := tm_response
  have m_close := tm_close
  have m_appClose := tm_appClose
  have m_done := tm_done
  have m_datagram := tm_datagram
  go_enter Try.func48, Try.ntmps48
  go_wp2
  go_ret
  exact ⟨rfl, (Below.refl _ _).alloc (Nat.le_refl _) _⟩
set_option maxRecDepth 20000 in
set_option maxHeartbeats 1000000 in
theorem own_newId_y (k a b c : Int) (fin : Bool) (ad at' ar : Option Addr) (nd pd nt pt nr pr : Nat) (f g : Int) (w : World) (h : b ≤ a) : Calls Try.prog 48 #[.iface 118 (.agg #[.int .i64 k, .int .i64 a, .int .i64 b, .int .i64 c, .bool fin, .slice ad nd pd, .slice at' nt pt, .slice ar nr pr, .int .i64 f, .int .i64 g])] w fun e w' => e = .returned (.bool (((nt : Int) == 8))) ∧ Below w.heap.size w w' := by
  have hd : decide (b ≤ a) = true := decide_eq_true h
  have m_padding := tm_padding
  have m_ping := tm_ping
  have m_ack := tm_ack
  have m_reset := tm_reset
  have m_stop := tm_stop
  have m_crypto := tm_crypto
  have m_newToken := tm_newToken
  have m_stream := tm_stream
  have m_maxData := tm_maxData
  have m_maxStreamData := tm_maxStreamData
  have m_maxStreams := tm_maxStreams
  have m_dataBlocked := tm_dataBlocked
  have m_streamBlocked := tm_streamBlocked
  have m_streamsBlocked := tm_streamsBlocked
  have m_newId := th_newId
  have m_retireId := tm_retireId
  have m_challenge := tm_challenge
  have m_response := tm_response
  have m_close := tm_close
  have m_appClose := tm_appClose
  have m_done := tm_done
  have m_datagram := tm_datagram
  go_enter Try.func48, Try.ntmps48
  go_wp2
  go_ret
  exact ⟨rfl, (Below.refl _ _).alloc (Nat.le_refl _) _⟩
theorem own_newId (k a b c : Int) (fin : Bool) (ad at' ar : Option Addr) (nd pd nt pt nr pr : Nat) (f g : Int) (w : World) : Calls Try.prog 48 #[.iface 118 (.agg #[.int .i64 k, .int .i64 a, .int .i64 b, .int .i64 c, .bool fin, .slice ad nd pd, .slice at' nt pt, .slice ar nr pr, .int .i64 f, .int .i64 g])] w fun e w' => e = .returned (.bool (decide (b ≤ a) && ((nt : Int) == 8))) ∧ Below w.heap.size w w' := by
  by_cases h : b ≤ a
  · rw [decide_eq_true h, Bool.true_and]; exact own_newId_y k a b c fin ad at' ar nd pd nt pt nr pr f g w h
  · rw [decide_eq_false h, Bool.false_and]; exact own_newId_n k a b c fin ad at' ar nd pd nt pt nr pr f g w h
set_option maxRecDepth 20000 in
set_option maxHeartbeats 1000000 in
theorem own_crypto (k a b c : Int) (fin : Bool) (ad at' ar : Option Addr) (nd pd nt pt nr pr : Nat) (f g : Int) (w : World) (hn : nd ≤ 9223372036854775807) : Calls Try.prog 48 #[.iface 106 (.agg #[.int .i64 k, .int .i64 a, .int .i64 b, .int .i64 c, .bool fin, .slice ad nd pd, .slice at' nt pt, .slice ar nr pr, .int .i64 f, .int .i64 g])] w fun e w' => e = .returned (.bool (decide (a ≤ 4611686018427387903 - (nd : Int)))) ∧ Below w.heap.size w w' := by
  have hw : IntKind.i64.wrap (4611686018427387903 - (nd : Int)) = 4611686018427387903 - (nd : Int) := by rw [IntKind.wrap_i64]; omega
  have m_padding := tm_padding
  have m_ping := tm_ping
  have m_ack := tm_ack
  have m_reset := tm_reset
  have m_stop := tm_stop
  have m_crypto := th_crypto
  have m_newToken := tm_newToken
  have m_stream := tm_stream
  have m_maxData := tm_maxData
  have m_maxStreamData := tm_maxStreamData
  have m_maxStreams := tm_maxStreams
  have m_dataBlocked := tm_dataBlocked
  have m_streamBlocked := tm_streamBlocked
  have m_streamsBlocked := tm_streamsBlocked
  have m_newId := tm_newId
  have m_retireId := tm_retireId
  have m_challenge := tm_challenge
  have m_response := tm_response
  have m_close := tm_close
  have m_appClose := tm_appClose
  have m_done := tm_done
  have m_datagram := tm_datagram
  go_enter Try.func48, Try.ntmps48
  go_wp2
  go_ret
  exact ⟨rfl, (Below.refl _ _).alloc (Nat.le_refl _) _⟩
set_option maxRecDepth 20000 in
set_option maxHeartbeats 1000000 in
theorem own_stream (k a b c : Int) (fin : Bool) (ad at' ar : Option Addr) (nd pd nt pt nr pr : Nat) (f g : Int) (w : World) (hn : nd ≤ 9223372036854775807) : Calls Try.prog 48 #[.iface 109 (.agg #[.int .i64 k, .int .i64 a, .int .i64 b, .int .i64 c, .bool fin, .slice ad nd pd, .slice at' nt pt, .slice ar nr pr, .int .i64 f, .int .i64 g])] w fun e w' => e = .returned (.bool (decide (b ≤ 4611686018427387903 - (nd : Int)))) ∧ Below w.heap.size w w' := by
  have hw : IntKind.i64.wrap (4611686018427387903 - (nd : Int)) = 4611686018427387903 - (nd : Int) := by rw [IntKind.wrap_i64]; omega
  have m_padding := tm_padding
  have m_ping := tm_ping
  have m_ack := tm_ack
  have m_reset := tm_reset
  have m_stop := tm_stop
  have m_crypto := tm_crypto
  have m_newToken := tm_newToken
  have m_stream := th_stream
  have m_maxData := tm_maxData
  have m_maxStreamData := tm_maxStreamData
  have m_maxStreams := tm_maxStreams
  have m_dataBlocked := tm_dataBlocked
  have m_streamBlocked := tm_streamBlocked
  have m_streamsBlocked := tm_streamsBlocked
  have m_newId := tm_newId
  have m_retireId := tm_retireId
  have m_challenge := tm_challenge
  have m_response := tm_response
  have m_close := tm_close
  have m_appClose := tm_appClose
  have m_done := tm_done
  have m_datagram := tm_datagram
  go_enter Try.func48, Try.ntmps48
  go_wp2
  go_ret
  exact ⟨rfl, (Below.refl _ _).alloc (Nat.le_refl _) _⟩
set_option maxRecDepth 20000 in
set_option maxHeartbeats 1000000 in
theorem own_ack_n (k a b c : Int) (fin : Bool) (ad at' ar : Option Addr) (nd pd nt pt nr pr : Nat) (w : World) (h : nr = 0) : Calls Try.prog 48 #[.iface 101 (.agg #[.int .i64 k, .int .i64 a, .int .i64 b, .int .i64 c, .bool fin, .slice ad nd pd, .slice at' nt pt, .slice ar nr pr])] w fun e w' => e = .returned (.bool (false)) ∧ Below w.heap.size w w' := by
  subst h
  have m_padding := tm_padding
  have m_ping := tm_ping
  have m_ack := th_ack
  have m_reset := tm_reset
  have m_stop := tm_stop
  have m_crypto := tm_crypto
  have m_newToken := tm_newToken
  have m_stream := tm_stream
  have m_maxData := tm_maxData
  have m_maxStreamData := tm_maxStreamData
  have m_maxStreams := tm_maxStreams
  have m_dataBlocked := tm_dataBlocked
  have m_streamBlocked := tm_streamBlocked
  have m_streamsBlocked := tm_streamsBlocked
  have m_newId := tm_newId
  have m_retireId := tm_retireId
  have m_challenge := tm_challenge
  have m_response := tm_response
  have m_close := tm_close
  have m_appClose := tm_appClose
  have m_done := tm_done
  have m_datagram := tm_datagram
  go_enter Try.func48, Try.ntmps48
  go_wp2
  go_ret
  exact ⟨rfl, (Below.refl _ _).alloc (Nat.le_refl _) _⟩
set_option maxRecDepth 20000 in
set_option maxHeartbeats 1000000 in
theorem own_ack_y (k a b c : Int) (fin : Bool) (ad at' ar : Option Addr) (nd pd nt pt nr pr : Nat) (R : List (Int × Int)) (w : World) (h : 0 < nr) (hn : nr ≤ 9223372036854775807) (hr : RRow w (.slice ar nr pr) R) (el : R.length = nr) : Calls Try.prog 48 #[.iface 101 (.agg #[.int .i64 k, .int .i64 a, .int .i64 b, .int .i64 c, .bool fin, .slice ad nd pd, .slice at' nt pt, .slice ar nr pr])] w fun e w' => e = .returned (.bool (rokV R)) ∧ Below w.heap.size w w' := by
  have hd : decide ((0 : Int) < (nr : Int)) = true := decide_eq_true (by omega)
  have hp : (0 : Int) < (nr : Int) := by omega
  have HH : Hid _ := And.intro hr (And.intro el hn)
  clear hr el hn
  have m_padding := tm_padding
  have m_ping := tm_ping
  have m_ack := th_ack
  have m_reset := tm_reset
  have m_stop := tm_stop
  have m_crypto := tm_crypto
  have m_newToken := tm_newToken
  have m_stream := tm_stream
  have m_maxData := tm_maxData
  have m_maxStreamData := tm_maxStreamData
  have m_maxStreams := tm_maxStreams
  have m_dataBlocked := tm_dataBlocked
  have m_streamBlocked := tm_streamBlocked
  have m_streamsBlocked := tm_streamsBlocked
  have m_newId := tm_newId
  have m_retireId := tm_retireId
  have m_challenge := tm_challenge
  have m_response := tm_response
  have m_close := tm_close
  have m_appClose := tm_appClose
  have m_done := tm_done
  have m_datagram := tm_datagram
  go_enter Try.func48, Try.ntmps48
  go_wp2_with fail
  go_at_call 56
  refine (rokI _ R _ (HH.out.1.below ((Below.refl _ _).alloc (Nat.le_refl _) _)) (by have := HH.out.2.1; have := HH.out.2.2; omega)).mono ?_
  rintro e w1 ⟨rfl, b1⟩
  go_wp2
  go_ret
  exact ⟨rfl, ((Below.refl _ _).alloc (Nat.le_refl _) _).trans (b1.mono (by simp))⟩
theorem own_ack (k a b c : Int) (fin : Bool) (ad at' ar : Option Addr) (nd pd nt pt nr pr : Nat) (R : List (Int × Int)) (w : World) (hn : nr ≤ 9223372036854775807) (hr : RRow w (.slice ar nr pr) R) (el : R.length = nr) : Calls Try.prog 48 #[.iface 101 (.agg #[.int .i64 k, .int .i64 a, .int .i64 b, .int .i64 c, .bool fin, .slice ad nd pd, .slice at' nt pt, .slice ar nr pr])] w fun e w' => e = .returned (.bool (decide (0 < nr) && rokV R)) ∧ Below w.heap.size w w' := by
  by_cases h : 0 < nr
  · rw [decide_eq_true h, Bool.true_and]; exact own_ack_y k a b c fin ad at' ar nd pd nt pt nr pr R w h hn hr el
  · rw [decide_eq_false h, Bool.false_and]; exact own_ack_n k a b c fin ad at' ar nd pd nt pt nr pr w (by omega)
end Go.Proofs.Ytaodcahkkeobdaa
