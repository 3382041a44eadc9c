import Derived.Test.YtaodcahkkeobdaaAssert
namespace Go.Proofs.Ytaodcahkkeobdaa
open Go.RowKit
set_option linter.unusedVariables false

set_option maxRecDepth 20000 in
set_option maxHeartbeats 1000000 in
theorem kf_padding (v : Value) (w : World) : Calls Try.prog 46 #[.iface 98 v] w fun e w' => e = .returned (.int .i64 1) ∧ w' = w := by
  have m_padding := th_padding
  have m_ping := tm_ping
  have m_ack := tm_ack
  have m_reset := tm_reset
  have m_stop := tm_stop
  have m_crypto := tm_crypto
  have m_newToken := tm_newToken
  have m_stream := tm_stream
  have m_maxData := tm_maxData
  have m_maxStreamData := tm_maxStreamData
  have m_maxStreams := tm_maxStreams
  have m_dataBlocked := tm_dataBlocked
  have m_streamBlocked := tm_streamBlocked
  have m_streamsBlocked := tm_streamsBlocked
  have m_newId := tm_newId
  have m_retireId := tm_retireId
  have m_challenge := tm_challenge
  have m_response := tm_response
  have m_close := tm_close
  have m_appClose := tm_appClose
  have m_done := tm_done
  have m_datagram := tm_datagram
  go_enter Try.func46, Try.ntmps46
  go_wp2
  go_ret
  exact ⟨rfl, rfl⟩
set_option maxRecDepth 20000 in
set_option maxHeartbeats 1000000 in
theorem dl_padding (v : Value) (w : World) : Calls Try.prog 47 #[.iface 98 v] w fun e w' => e = .returned (.tuple #[.int .i64 0, .int .i64 0]) ∧ w' = w := by
  have m_padding := th_padding
  have m_ping := tm_ping
  have m_ack := tm_ack
  have m_reset := tm_reset
  have m_stop := tm_stop
  have m_crypto := tm_crypto
  have m_newToken := tm_newToken
  have m_stream := tm_stream
  have m_maxData := tm_maxData
  have m_maxStreamData := tm_maxStreamData
  have m_maxStreams := tm_maxStreams
  have m_dataBlocked := tm_dataBlocked
  have m_streamBlocked := tm_streamBlocked
  have m_streamsBlocked := tm_streamsBlocked
  have m_newId := tm_newId
  have m_retireId := tm_retireId
  have m_challenge := tm_challenge
  have m_response := tm_response
  have m_close := tm_close
  have m_appClose := tm_appClose
  have m_done := tm_done
  have m_datagram := tm_datagram
  go_enter Try.func47, Try.ntmps47
  go_wp2
  refine bodyPost_ret (results_tmp2 rfl _ _ _) rfl ?_
  exact ⟨rfl, rfl⟩
set_option maxRecDepth 20000 in
set_option maxHeartbeats 1000000 in
theorem kf_ping (v : Value) (w : World) : Calls Try.prog 46 #[.iface 100 v] w fun e w' => e = .returned (.int .i64 0) ∧ w' = w := by
  have m_padding := tm_padding
  have m_ping := th_ping
  have m_ack := tm_ack
  have m_reset := tm_reset
  have m_stop := tm_stop
  have m_crypto := tm_crypto
  have m_newToken := tm_newToken
  have m_stream := tm_stream
  have m_maxData := tm_maxData
  have m_maxStreamData := tm_maxStreamData
  have m_maxStreams := tm_maxStreams
  have m_dataBlocked := tm_dataBlocked
  have m_streamBlocked := tm_streamBlocked
  have m_streamsBlocked := tm_streamsBlocked
  have m_newId := tm_newId
  have m_retireId := tm_retireId
  have m_challenge := tm_challenge
  have m_response := tm_response
  have m_close := tm_close
  have m_appClose := tm_appClose
  have m_done := tm_done
  have m_datagram := tm_datagram
  go_enter Try.func46, Try.ntmps46
  go_wp2
  go_ret
  exact ⟨rfl, rfl⟩
set_option maxRecDepth 20000 in
set_option maxHeartbeats 1000000 in
theorem dl_ping (v : Value) (w : World) : Calls Try.prog 47 #[.iface 100 v] w fun e w' => e = .returned (.tuple #[.int .i64 0, .int .i64 0]) ∧ w' = w := by
  have m_padding := tm_padding
  have m_ping := th_ping
  have m_ack := tm_ack
  have m_reset := tm_reset
  have m_stop := tm_stop
  have m_crypto := tm_crypto
  have m_newToken := tm_newToken
  have m_stream := tm_stream
  have m_maxData := tm_maxData
  have m_maxStreamData := tm_maxStreamData
  have m_maxStreams := tm_maxStreams
  have m_dataBlocked := tm_dataBlocked
  have m_streamBlocked := tm_streamBlocked
  have m_streamsBlocked := tm_streamsBlocked
  have m_newId := tm_newId
  have m_retireId := tm_retireId
  have m_challenge := tm_challenge
  have m_response := tm_response
  have m_close := tm_close
  have m_appClose := tm_appClose
  have m_done := tm_done
  have m_datagram := tm_datagram
  go_enter Try.func47, Try.ntmps47
  go_wp2
  refine bodyPost_ret (results_tmp2 rfl _ _ _) rfl ?_
  exact ⟨rfl, rfl⟩
set_option maxRecDepth 20000 in
set_option maxHeartbeats 1000000 in
theorem kf_ack (v : Value) (w : World) : Calls Try.prog 46 #[.iface 101 v] w fun e w' => e = .returned (.int .i64 65) ∧ w' = w := by
  have m_padding := tm_padding
  have m_ping := tm_ping
  have m_ack := th_ack
  have m_reset := tm_reset
  have m_stop := tm_stop
  have m_crypto := tm_crypto
  have m_newToken := tm_newToken
  have m_stream := tm_stream
  have m_maxData := tm_maxData
  have m_maxStreamData := tm_maxStreamData
  have m_maxStreams := tm_maxStreams
  have m_dataBlocked := tm_dataBlocked
  have m_streamBlocked := tm_streamBlocked
  have m_streamsBlocked := tm_streamsBlocked
  have m_newId := tm_newId
  have m_retireId := tm_retireId
  have m_challenge := tm_challenge
  have m_response := tm_response
  have m_close := tm_close
  have m_appClose := tm_appClose
  have m_done := tm_done
  have m_datagram := tm_datagram
  go_enter Try.func46, Try.ntmps46
  go_wp2
  go_ret
  exact ⟨rfl, rfl⟩
set_option maxRecDepth 20000 in
set_option maxHeartbeats 1000000 in
theorem dl_ack (v : Value) (w : World) : Calls Try.prog 47 #[.iface 101 v] w fun e w' => e = .returned (.tuple #[.int .i64 0, .int .i64 0]) ∧ w' = w := by
  have m_padding := tm_padding
  have m_ping := tm_ping
  have m_ack := th_ack
  have m_reset := tm_reset
  have m_stop := tm_stop
  have m_crypto := tm_crypto
  have m_newToken := tm_newToken
  have m_stream := tm_stream
  have m_maxData := tm_maxData
  have m_maxStreamData := tm_maxStreamData
  have m_maxStreams := tm_maxStreams
  have m_dataBlocked := tm_dataBlocked
  have m_streamBlocked := tm_streamBlocked
  have m_streamsBlocked := tm_streamsBlocked
  have m_newId := tm_newId
  have m_retireId := tm_retireId
  have m_challenge := tm_challenge
  have m_response := tm_response
  have m_close := tm_close
  have m_appClose := tm_appClose
  have m_done := tm_done
  have m_datagram := tm_datagram
  go_enter Try.func47, Try.ntmps47
  go_wp2
  refine bodyPost_ret (results_tmp2 rfl _ _ _) rfl ?_
  exact ⟨rfl, rfl⟩
set_option maxRecDepth 20000 in
set_option maxHeartbeats 1000000 in
theorem kf_reset (v : Value) (w : World) : Calls Try.prog 46 #[.iface 103 v] w fun e w' => e = .returned (.int .i64 7) ∧ w' = w := by
  have m_padding := tm_padding
  have m_ping := tm_ping
  have m_ack := tm_ack
  have m_reset := th_reset
  have m_stop := tm_stop
  have m_crypto := tm_crypto
  have m_newToken := tm_newToken
  have m_stream := tm_stream
  have m_maxData := tm_maxData
  have m_maxStreamData := tm_maxStreamData
  have m_maxStreams := tm_maxStreams
  have m_dataBlocked := tm_dataBlocked
  have m_streamBlocked := tm_streamBlocked
  have m_streamsBlocked := tm_streamsBlocked
  have m_newId := tm_newId
  have m_retireId := tm_retireId
  have m_challenge := tm_challenge
  have m_response := tm_response
  have m_close := tm_close
  have m_appClose := tm_appClose
  have m_done := tm_done
  have m_datagram := tm_datagram
  go_enter Try.func46, Try.ntmps46
  go_wp2
  go_ret
  exact ⟨rfl, rfl⟩
set_option maxRecDepth 20000 in
set_option maxHeartbeats 1000000 in
theorem dl_reset (v : Value) (w : World) : Calls Try.prog 47 #[.iface 103 v] w fun e w' => e = .returned (.tuple #[.int .i64 0, .int .i64 0]) ∧ w' = w := by
  have m_padding := tm_padding
  have m_ping := tm_ping
  have m_ack := tm_ack
  have m_reset := th_reset
  have m_stop := tm_stop
  have m_crypto := tm_crypto
  have m_newToken := tm_newToken
  have m_stream := tm_stream
  have m_maxData := tm_maxData
  have m_maxStreamData := tm_maxStreamData
  have m_maxStreams := tm_maxStreams
  have m_dataBlocked := tm_dataBlocked
  have m_streamBlocked := tm_streamBlocked
  have m_streamsBlocked := tm_streamsBlocked
  have m_newId := tm_newId
  have m_retireId := tm_retireId
  have m_challenge := tm_challenge
  have m_response := tm_response
  have m_close := tm_close
  have m_appClose := tm_appClose
  have m_done := tm_done
  have m_datagram := tm_datagram
  go_enter Try.func47, Try.ntmps47
  go_wp2
  refine bodyPost_ret (results_tmp2 rfl _ _ _) rfl ?_
  exact ⟨rfl, rfl⟩
set_option maxRecDepth 20000 in
set_option maxHeartbeats 1000000 in
theorem kf_stop (v : Value) (w : World) : Calls Try.prog 46 #[.iface 104 v] w fun e w' => e = .returned (.int .i64 3) ∧ w' = w := by
  have m_padding := tm_padding
  have m_ping := tm_ping
  have m_ack := tm_ack
  have m_reset := tm_reset
  have m_stop := th_stop
  have m_crypto := tm_crypto
  have m_newToken := tm_newToken
  have m_stream := tm_stream
  have m_maxData := tm_maxData
  have m_maxStreamData := tm_maxStreamData
  have m_maxStreams := tm_maxStreams
  have m_dataBlocked := tm_dataBlocked
  have m_streamBlocked := tm_streamBlocked
  have m_streamsBlocked := tm_streamsBlocked
  have m_newId := tm_newId
  have m_retireId := tm_retireId
  have m_challenge := tm_challenge
  have m_response := tm_response
  have m_close := tm_close
  have m_appClose := tm_appClose
  have m_done := tm_done
  have m_datagram := tm_datagram
  go_enter Try.func46, Try.ntmps46
  go_wp2
  go_ret
  exact ⟨rfl, rfl⟩
set_option maxRecDepth 20000 in
set_option maxHeartbeats 1000000 in
theorem dl_stop (v : Value) (w : World) : Calls Try.prog 47 #[.iface 104 v] w fun e w' => e = .returned (.tuple #[.int .i64 0, .int .i64 0]) ∧ w' = w := by
  have m_padding := tm_padding
  have m_ping := tm_ping
  have m_ack := tm_ack
  have m_reset := tm_reset
  have m_stop := th_stop
  have m_crypto := tm_crypto
  have m_newToken := tm_newToken
  have m_stream := tm_stream
  have m_maxData := tm_maxData
  have m_maxStreamData := tm_maxStreamData
  have m_maxStreams := tm_maxStreams
  have m_dataBlocked := tm_dataBlocked
  have m_streamBlocked := tm_streamBlocked
  have m_streamsBlocked := tm_streamsBlocked
  have m_newId := tm_newId
  have m_retireId := tm_retireId
  have m_challenge := tm_challenge
  have m_response := tm_response
  have m_close := tm_close
  have m_appClose := tm_appClose
  have m_done := tm_done
  have m_datagram := tm_datagram
  go_enter Try.func47, Try.ntmps47
  go_wp2
  refine bodyPost_ret (results_tmp2 rfl _ _ _) rfl ?_
  exact ⟨rfl, rfl⟩
set_option maxRecDepth 20000 in
set_option maxHeartbeats 1000000 in
theorem kf_crypto (v : Value) (w : World) : Calls Try.prog 46 #[.iface 106 v] w fun e w' => e = .returned (.int .i64 17) ∧ w' = w := by
  have m_padding := tm_padding
  have m_ping := tm_ping
  have m_ack := tm_ack
  have m_reset := tm_reset
  have m_stop := tm_stop
  have m_crypto := th_crypto
  have m_newToken := tm_newToken
  have m_stream := tm_stream
  have m_maxData := tm_maxData
  have m_maxStreamData := tm_maxStreamData
  have m_maxStreams := tm_maxStreams
  have m_dataBlocked := tm_dataBlocked
  have m_streamBlocked := tm_streamBlocked
  have m_streamsBlocked := tm_streamsBlocked
  have m_newId := tm_newId
  have m_retireId := tm_retireId
  have m_challenge := tm_challenge
  have m_response := tm_response
  have m_close := tm_close
  have m_appClose := tm_appClose
  have m_done := tm_done
  have m_datagram := tm_datagram
  go_enter Try.func46, Try.ntmps46
  go_wp2
  go_ret
  exact ⟨rfl, rfl⟩
set_option maxRecDepth 20000 in
set_option maxHeartbeats 1000000 in
theorem dl_crypto (v : Value) (w : World) : Calls Try.prog 47 #[.iface 106 v] w fun e w' => e = .returned (.tuple #[.int .i64 0, .int .i64 1500]) ∧ w' = w := by
  have m_padding := tm_padding
  have m_ping := tm_ping
  have m_ack := tm_ack
  have m_reset := tm_reset
  have m_stop := tm_stop
  have m_crypto := th_crypto
  have m_newToken := tm_newToken
  have m_stream := tm_stream
  have m_maxData := tm_maxData
  have m_maxStreamData := tm_maxStreamData
  have m_maxStreams := tm_maxStreams
  have m_dataBlocked := tm_dataBlocked
  have m_streamBlocked := tm_streamBlocked
  have m_streamsBlocked := tm_streamsBlocked
  have m_newId := tm_newId
  have m_retireId := tm_retireId
  have m_challenge := tm_challenge
  have m_response := tm_response
  have m_close := tm_close
  have m_appClose := tm_appClose
  have m_done := tm_done
  have m_datagram := tm_datagram
  go_enter Try.func47, Try.ntmps47
  go_wp2
  refine bodyPost_ret (results_tmp2 rfl _ _ _) rfl ?_
  exact ⟨rfl, rfl⟩
set_option maxRecDepth 20000 in
set_option maxHeartbeats 1000000 in
theorem kf_newToken (v : Value) (w : World) : Calls Try.prog 46 #[.iface 108 v] w fun e w' => e = .returned (.int .i64 16) ∧ w' = w := by
  have m_padding := tm_padding
  have m_ping := tm_ping
  have m_ack := tm_ack
  have m_reset := tm_reset
  have m_stop := tm_stop
  have m_crypto := tm_crypto
  have m_newToken := th_newToken
  have m_stream := tm_stream
  have m_maxData := tm_maxData
  have m_maxStreamData := tm_maxStreamData
  have m_maxStreams := tm_maxStreams
  have m_dataBlocked := tm_dataBlocked
  have m_streamBlocked := tm_streamBlocked
  have m_streamsBlocked := tm_streamsBlocked
  have m_newId := tm_newId
  have m_retireId := tm_retireId
  have m_challenge := tm_challenge
  have m_response := tm_response
  have m_close := tm_close
  have m_appClose := tm_appClose
  have m_done := tm_done
  have m_datagram := tm_datagram
  go_enter Try.func46, Try.ntmps46
  go_wp2
  go_ret
  exact ⟨rfl, rfl⟩
set_option maxRecDepth 20000 in
set_option maxHeartbeats 1000000 in
theorem dl_newToken (v : Value) (w : World) : Calls Try.prog 47 #[.iface 108 v] w fun e w' => e = .returned (.tuple #[.int .i64 1, .int .i64 64]) ∧ w' = w := by
  have m_padding := tm_padding
  have m_ping := tm_ping
  have m_ack := tm_ack
  have m_reset := tm_reset
  have m_stop := tm_stop
  have m_crypto := tm_crypto
  have m_newToken := th_newToken
  have m_stream := tm_stream
  have m_maxData := tm_maxData
  have m_maxStreamData := tm_maxStreamData
  have m_maxStreams := tm_maxStreams
  have m_dataBlocked := tm_dataBlocked
  have m_streamBlocked := tm_streamBlocked
  have m_streamsBlocked := tm_streamsBlocked
  have m_newId := tm_newId
  have m_retireId := tm_retireId
  have m_challenge := tm_challenge
  have m_response := tm_response
  have m_close := tm_close
  have m_appClose := tm_appClose
  have m_done := tm_done
  have m_datagram := tm_datagram
  go_enter Try.func47, Try.ntmps47
  go_wp2
  refine bodyPost_ret (results_tmp2 rfl _ _ _) rfl ?_
  exact ⟨rfl, rfl⟩
set_option maxRecDepth 20000 in
set_option maxHeartbeats 1000000 in
theorem kf_stream (v : Value) (w : World) : Calls Try.prog 46 #[.iface 109 v] w fun e w' => e = .returned (.int .i64 27) ∧ w' = w := by
  have m_padding := tm_padding
  have m_ping := tm_ping
  have m_ack := tm_ack
  have m_reset := tm_reset
  have m_stop := tm_stop
  have m_crypto := tm_crypto
  have m_newToken := tm_newToken
  have m_stream := th_stream
  have m_maxData := tm_maxData
  have m_maxStreamData := tm_maxStreamData
  have m_maxStreams := tm_maxStreams
  have m_dataBlocked := tm_dataBlocked
  have m_streamBlocked := tm_streamBlocked
  have m_streamsBlocked := tm_streamsBlocked
  have m_newId := tm_newId
  have m_retireId := tm_retireId
  have m_challenge := tm_challenge
  have m_response := tm_response
  have m_close := tm_close
  have m_appClose := tm_appClose
  have m_done := tm_done
  have m_datagram := tm_datagram
  go_enter Try.func46, Try.ntmps46
  go_wp2
  go_ret
  exact ⟨rfl, rfl⟩
set_option maxRecDepth 20000 in
set_option maxHeartbeats 1000000 in
theorem dl_stream (v : Value) (w : World) : Calls Try.prog 47 #[.iface 109 v] w fun e w' => e = .returned (.tuple #[.int .i64 0, .int .i64 1500]) ∧ w' = w := by
  have m_padding := tm_padding
  have m_ping := tm_ping
  have m_ack := tm_ack
  have m_reset := tm_reset
  have m_stop := tm_stop
  have m_crypto := tm_crypto
  have m_newToken := tm_newToken
  have m_stream := th_stream
  have m_maxData := tm_maxData
  have m_maxStreamData := tm_maxStreamData
  have m_maxStreams := tm_maxStreams
  have m_dataBlocked := tm_dataBlocked
  have m_streamBlocked := tm_streamBlocked
  have m_streamsBlocked := tm_streamsBlocked
  have m_newId := tm_newId
  have m_retireId := tm_retireId
  have m_challenge := tm_challenge
  have m_response := tm_response
  have m_close := tm_close
  have m_appClose := tm_appClose
  have m_done := tm_done
  have m_datagram := tm_datagram
  go_enter Try.func47, Try.ntmps47
  go_wp2
  refine bodyPost_ret (results_tmp2 rfl _ _ _) rfl ?_
  exact ⟨rfl, rfl⟩
set_option maxRecDepth 20000 in
set_option maxHeartbeats 1000000 in
theorem kf_maxData (v : Value) (w : World) : Calls Try.prog 46 #[.iface 111 v] w fun e w' => e = .returned (.int .i64 1) ∧ w' = w := by
  have m_padding := tm_padding
  have m_ping := tm_ping
  have m_ack := tm_ack
  have m_reset := tm_reset
  have m_stop := tm_stop
  have m_crypto := tm_crypto
  have m_newToken := tm_newToken
  have m_stream := tm_stream
  have m_maxData := th_maxData
  have m_maxStreamData := tm_maxStreamData
  have m_maxStreams := tm_maxStreams
  have m_dataBlocked := tm_dataBlocked
  have m_streamBlocked := tm_streamBlocked
  have m_streamsBlocked := tm_streamsBlocked
  have m_newId := tm_newId
  have m_retireId := tm_retireId
  have m_challenge := tm_challenge
  have m_response := tm_response
  have m_close := tm_close
  have m_appClose := tm_appClose
  have m_done := tm_done
  have m_datagram := tm_datagram
  go_enter Try.func46, Try.ntmps46
  go_wp2
  go_ret
  exact ⟨rfl, rfl⟩
set_option maxRecDepth 20000 in
set_option maxHeartbeats 1000000 in
theorem dl_maxData (v : Value) (w : World) : Calls Try.prog 47 #[.iface 111 v] w fun e w' => e = .returned (.tuple #[.int .i64 0, .int .i64 0]) ∧ w' = w := by
  have m_padding := tm_padding
  have m_ping := tm_ping
  have m_ack := tm_ack
  have m_reset := tm_reset
  have m_stop := tm_stop
  have m_crypto := tm_crypto
  have m_newToken := tm_newToken
  have m_stream := tm_stream
  have m_maxData := th_maxData
  have m_maxStreamData := tm_maxStreamData
  have m_maxStreams := tm_maxStreams
  have m_dataBlocked := tm_dataBlocked
  have m_streamBlocked := tm_streamBlocked
  have m_streamsBlocked := tm_streamsBlocked
  have m_newId := tm_newId
  have m_retireId := tm_retireId
  have m_challenge := tm_challenge
  have m_response := tm_response
  have m_close := tm_close
  have m_appClose := tm_appClose
  have m_done := tm_done
  have m_datagram := tm_datagram
  go_enter Try.func47, Try.ntmps47
  go_wp2
  refine bodyPost_ret (results_tmp2 rfl _ _ _) rfl ?_
  exact ⟨rfl, rfl⟩
set_option maxRecDepth 20000 in
set_option maxHeartbeats 1000000 in
theorem kf_maxStreamData (v : Value) (w : World) : Calls Try.prog 46 #[.iface 112 v] w fun e w' => e = .returned (.int .i64 3) ∧ w' = w := by
  have m_padding := tm_padding
  have m_ping := tm_ping
  have m_ack := tm_ack
  have m_reset := tm_reset
  have m_stop := tm_stop
  have m_crypto := tm_crypto
  have m_newToken := tm_newToken
  have m_stream := tm_stream
  have m_maxData := tm_maxData
  have m_maxStreamData := th_maxStreamData
  have m_maxStreams := tm_maxStreams
  have m_dataBlocked := tm_dataBlocked
  have m_streamBlocked := tm_streamBlocked
  have m_streamsBlocked := tm_streamsBlocked
  have m_newId := tm_newId
  have m_retireId := tm_retireId
  have m_challenge := tm_challenge
  have m_response := tm_response
  have m_close := tm_close
  have m_appClose := tm_appClose
  have m_done := tm_done
  have m_datagram := tm_datagram
  go_enter Try.func46, Try.ntmps46
  go_wp2
  go_ret
  exact ⟨rfl, rfl⟩
set_option maxRecDepth 20000 in
set_option maxHeartbeats 1000000 in
theorem dl_maxStreamData (v : Value) (w : World) : Calls Try.prog 47 #[.iface 112 v] w fun e w' => e = .returned (.tuple #[.int .i64 0, .int .i64 0]) ∧ w' = w := by
  have m_padding := tm_padding
  have m_ping := tm_ping
  have m_ack := tm_ack
  have m_reset := tm_reset
  have m_stop := tm_stop
  have m_crypto := tm_crypto
  have m_newToken := tm_newToken
  have m_stream := tm_stream
  have m_maxData := tm_maxData
  have m_maxStreamData := th_maxStreamData
  have m_maxStreams := tm_maxStreams
  have m_dataBlocked := tm_dataBlocked
  have m_streamBlocked := tm_streamBlocked
  have m_streamsBlocked := tm_streamsBlocked
  have m_newId := tm_newId
  have m_retireId := tm_retireId
  have m_challenge := tm_challenge
  have m_response := tm_response
  have m_close := tm_close
  have m_appClose := tm_appClose
  have m_done := tm_done
  have m_datagram := tm_datagram
  go_enter Try.func47, Try.ntmps47
  go_wp2
  refine bodyPost_ret (results_tmp2 rfl _ _ _) rfl ?_
  exact ⟨rfl, rfl⟩
set_option maxRecDepth 20000 in
set_option maxHeartbeats 1000000 in
theorem kf_maxStreams (v : Value) (w : World) : Calls Try.prog 46 #[.iface 114 v] w fun e w' => e = .returned (.int .i64 3) ∧ w' = w := by
  have m_padding := tm_padding
  have m_ping := tm_ping
  have m_ack := tm_ack
  have m_reset := tm_reset
  have m_stop := tm_stop
  have m_crypto := tm_crypto
  have m_newToken := tm_newToken
  have m_stream := tm_stream
  have m_maxData := tm_maxData
  have m_maxStreamData := tm_maxStreamData
  have m_maxStreams := th_maxStreams
  have m_dataBlocked := tm_dataBlocked
  have m_streamBlocked := tm_streamBlocked
  have m_streamsBlocked := tm_streamsBlocked
  have m_newId := tm_newId
  have m_retireId := tm_retireId
  have m_challenge := tm_challenge
  have m_response := tm_response
  have m_close := tm_close
  have m_appClose := tm_appClose
  have m_done := tm_done
  have m_datagram := tm_datagram
  go_enter Try.func46, Try.ntmps46
  go_wp2
  go_ret
  exact ⟨rfl, rfl⟩
set_option maxRecDepth 20000 in
set_option maxHeartbeats 1000000 in
theorem dl_maxStreams (v : Value) (w : World) : Calls Try.prog 47 #[.iface 114 v] w fun e w' => e = .returned (.tuple #[.int .i64 0, .int .i64 0]) ∧ w' = w := by
  have m_padding := tm_padding
  have m_ping := tm_ping
  have m_ack := tm_ack
  have m_reset := tm_reset
  have m_stop := tm_stop
  have m_crypto := tm_crypto
  have m_newToken := tm_newToken
  have m_stream := tm_stream
  have m_maxData := tm_maxData
  have m_maxStreamData := tm_maxStreamData
  have m_maxStreams := th_maxStreams
  have m_dataBlocked := tm_dataBlocked
  have m_streamBlocked := tm_streamBlocked
  have m_streamsBlocked := tm_streamsBlocked
  have m_newId := tm_newId
  have m_retireId := tm_retireId
  have m_challenge := tm_challenge
  have m_response := tm_response
  have m_close := tm_close
  have m_appClose := tm_appClose
  have m_done := tm_done
  have m_datagram := tm_datagram
  go_enter Try.func47, Try.ntmps47
  go_wp2
  refine bodyPost_ret (results_tmp2 rfl _ _ _) rfl ?_
  exact ⟨rfl, rfl⟩
set_option maxRecDepth 20000 in
set_option maxHeartbeats 1000000 in
theorem kf_dataBlocked (v : Value) (w : World) : Calls Try.prog 46 #[.iface 115 v] w fun e w' => e = .returned (.int .i64 1) ∧ w' = w := by
  have m_padding := tm_padding
  have m_ping := tm_ping
  have m_ack := tm_ack
  have m_reset := tm_reset
  have m_stop := tm_stop
  have m_crypto := tm_crypto
  have m_newToken := tm_newToken
  have m_stream := tm_stream
  have m_maxData := tm_maxData
  have m_maxStreamData := tm_maxStreamData
  have m_maxStreams := tm_maxStreams
  have m_dataBlocked := th_dataBlocked
  have m_streamBlocked := tm_streamBlocked
  have m_streamsBlocked := tm_streamsBlocked
  have m_newId := tm_newId
  have m_retireId := tm_retireId
  have m_challenge := tm_challenge
  have m_response := tm_response
  have m_close := tm_close
  have m_appClose := tm_appClose
  have m_done := tm_done
  have m_datagram := tm_datagram
  go_enter Try.func46, Try.ntmps46
  go_wp2
  go_ret
  exact ⟨rfl, rfl⟩
set_option maxRecDepth 20000 in
set_option maxHeartbeats 1000000 in
theorem dl_dataBlocked (v : Value) (w : World) : Calls Try.prog 47 #[.iface 115 v] w fun e w' => e = .returned (.tuple #[.int .i64 0, .int .i64 0]) ∧ w' = w := by
  have m_padding := tm_padding
  have m_ping := tm_ping
  have m_ack := tm_ack
  have m_reset := tm_reset
  have m_stop := tm_stop
  have m_crypto := tm_crypto
  have m_newToken := tm_newToken
  have m_stream := tm_stream
  have m_maxData := tm_maxData
  have m_maxStreamData := tm_maxStreamData
  have m_maxStreams := tm_maxStreams
  have m_dataBlocked := th_dataBlocked
  have m_streamBlocked := tm_streamBlocked
  have m_streamsBlocked := tm_streamsBlocked
  have m_newId := tm_newId
  have m_retireId := tm_retireId
  have m_challenge := tm_challenge
  have m_response := tm_response
  have m_close := tm_close
  have m_appClose := tm_appClose
  have m_done := tm_done
  have m_datagram := tm_datagram
  go_enter Try.func47, Try.ntmps47
  go_wp2
  refine bodyPost_ret (results_tmp2 rfl _ _ _) rfl ?_
  exact ⟨rfl, rfl⟩
set_option maxRecDepth 20000 in
set_option maxHeartbeats 1000000 in
theorem kf_streamBlocked (v : Value) (w : World) : Calls Try.prog 46 #[.iface 116 v] w fun e w' => e = .returned (.int .i64 3) ∧ w' = w := by
  have m_padding := tm_padding
  have m_ping := tm_ping
  have m_ack := tm_ack
  have m_reset := tm_reset
  have m_stop := tm_stop
  have m_crypto := tm_crypto
  have m_newToken := tm_newToken
  have m_stream := tm_stream
  have m_maxData := tm_maxData
  have m_maxStreamData := tm_maxStreamData
  have m_maxStreams := tm_maxStreams
  have m_dataBlocked := tm_dataBlocked
  have m_streamBlocked := th_streamBlocked
  have m_streamsBlocked := tm_streamsBlocked
  have m_newId := tm_newId
  have m_retireId := tm_retireId
  have m_challenge := tm_challenge
  have m_response := tm_response
  have m_close := tm_close
  have m_appClose := tm_appClose
  have m_done := tm_done
  have m_datagram := tm_datagram
  go_enter Try.func46, Try.ntmps46
  go_wp2
  go_ret
  exact ⟨rfl, rfl⟩
set_option maxRecDepth 20000 in
set_option maxHeartbeats 1000000 in
theorem dl_streamBlocked (v : Value) (w : World) : Calls Try.prog 47 #[.iface 116 v] w fun e w' => e = .returned (.tuple #[.int .i64 0, .int .i64 0]) ∧ w' = w := by
  have m_padding := tm_padding
  have m_ping := tm_ping
  have m_ack := tm_ack
  have m_reset := tm_reset
  have m_stop := tm_stop
  have m_crypto := tm_crypto
  have m_newToken := tm_newToken
  have m_stream := tm_stream
  have m_maxData := tm_maxData
  have m_maxStreamData := tm_maxStreamData
  have m_maxStreams := tm_maxStreams
  have m_dataBlocked := tm_dataBlocked
  have m_streamBlocked := th_streamBlocked
  have m_streamsBlocked := tm_streamsBlocked
  have m_newId := tm_newId
  have m_retireId := tm_retireId
  have m_challenge := tm_challenge
  have m_response := tm_response
  have m_close := tm_close
  have m_appClose := tm_appClose
  have m_done := tm_done
  have m_datagram := tm_datagram
  go_enter Try.func47, Try.ntmps47
  go_wp2
  refine bodyPost_ret (results_tmp2 rfl _ _ _) rfl ?_
  exact ⟨rfl, rfl⟩
set_option maxRecDepth 20000 in
set_option maxHeartbeats 1000000 in
theorem kf_streamsBlocked (v : Value) (w : World) : Calls Try.prog 46 #[.iface 117 v] w fun e w' => e = .returned (.int .i64 3) ∧ w' = w := by
  have m_padding := tm_padding
  have m_ping := tm_ping
  have m_ack := tm_ack
  have m_reset := tm_reset
  have m_stop := tm_stop
  have m_crypto := tm_crypto
  have m_newToken := tm_newToken
  have m_stream := tm_stream
  have m_maxData := tm_maxData
  have m_maxStreamData := tm_maxStreamData
  have m_maxStreams := tm_maxStreams
  have m_dataBlocked := tm_dataBlocked
  have m_streamBlocked := tm_streamBlocked
  have m_streamsBlocked := th_streamsBlocked
  have m_newId := tm_newId
  have m_retireId := tm_retireId
  have m_challenge := tm_challenge
  have m_response := tm_response
  have m_close := tm_close
  have m_appClose := tm_appClose
  have m_done := tm_done
  have m_datagram := tm_datagram
  go_enter Try.func46, Try.ntmps46
  go_wp2
  go_ret
  exact ⟨rfl, rfl⟩
set_option maxRecDepth 20000 in
set_option maxHeartbeats 1000000 in
theorem dl_streamsBlocked (v : Value) (w : World) : Calls Try.prog 47 #[.iface 117 v] w fun e w' => e = .returned (.tuple #[.int .i64 0, .int .i64 0]) ∧ w' = w := by
  have m_padding := tm_padding
  have m_ping := tm_ping
  have m_ack := tm_ack
  have m_reset := tm_reset
  have m_stop := tm_stop
  have m_crypto := tm_crypto
  have m_newToken := tm_newToken
  have m_stream := tm_stream
  have m_maxData := tm_maxData
  have m_maxStreamData := tm_maxStreamData
  have m_maxStreams := tm_maxStreams
  have m_dataBlocked := tm_dataBlocked
  have m_streamBlocked := tm_streamBlocked
  have m_streamsBlocked := th_streamsBlocked
  have m_newId := tm_newId
  have m_retireId := tm_retireId
  have m_challenge := tm_challenge
  have m_response := tm_response
  have m_close := tm_close
  have m_appClose := tm_appClose
  have m_done := tm_done
  have m_datagram := tm_datagram
  go_enter Try.func47, Try.ntmps47
  go_wp2
  refine bodyPost_ret (results_tmp2 rfl _ _ _) rfl ?_
  exact ⟨rfl, rfl⟩
set_option maxRecDepth 20000 in
set_option maxHeartbeats 1000000 in
theorem kf_newId (v : Value) (w : World) : Calls Try.prog 46 #[.iface 118 v] w fun e w' => e = .returned (.int .i64 51) ∧ w' = w := by
  have m_padding := tm_padding
  have m_ping := tm_ping
  have m_ack := tm_ack
  have m_reset := tm_reset
  have m_stop := tm_stop
  have m_crypto := tm_crypto
  have m_newToken := tm_newToken
  have m_stream := tm_stream
  have m_maxData := tm_maxData
  have m_maxStreamData := tm_maxStreamData
  have m_maxStreams := tm_maxStreams
  have m_dataBlocked := tm_dataBlocked
  have m_streamBlocked := tm_streamBlocked
  have m_streamsBlocked := tm_streamsBlocked
  have m_newId := th_newId
  have m_retireId := tm_retireId
  have m_challenge := tm_challenge
  have m_response := tm_response
  have m_close := tm_close
  have m_appClose := tm_appClose
  have m_done := tm_done
  have m_datagram := tm_datagram
  go_enter Try.func46, Try.ntmps46
  go_wp2
  go_ret
  exact ⟨rfl, rfl⟩
set_option maxRecDepth 20000 in
set_option maxHeartbeats 1000000 in
theorem dl_newId (v : Value) (w : World) : Calls Try.prog 47 #[.iface 118 v] w fun e w' => e = .returned (.tuple #[.int .i64 1, .int .i64 8]) ∧ w' = w := by
  have m_padding := tm_padding
  have m_ping := tm_ping
  have m_ack := tm_ack
  have m_reset := tm_reset
  have m_stop := tm_stop
  have m_crypto := tm_crypto
  have m_newToken := tm_newToken
  have m_stream := tm_stream
  have m_maxData := tm_maxData
  have m_maxStreamData := tm_maxStreamData
  have m_maxStreams := tm_maxStreams
  have m_dataBlocked := tm_dataBlocked
  have m_streamBlocked := tm_streamBlocked
  have m_streamsBlocked := tm_streamsBlocked
  have m_newId := th_newId
  have m_retireId := tm_retireId
  have m_challenge := tm_challenge
  have m_response := tm_response
  have m_close := tm_close
  have m_appClose := tm_appClose
  have m_done := tm_done
  have m_datagram := tm_datagram
  go_enter Try.func47, Try.ntmps47
  go_wp2
  refine bodyPost_ret (results_tmp2 rfl _ _ _) rfl ?_
  exact ⟨rfl, rfl⟩
set_option maxRecDepth 20000 in
set_option maxHeartbeats 1000000 in
theorem kf_retireId (v : Value) (w : World) : Calls Try.prog 46 #[.iface 119 v] w fun e w' => e = .returned (.int .i64 1) ∧ w' = w := by
  have m_padding := tm_padding
  have m_ping := tm_ping
  have m_ack := tm_ack
  have m_reset := tm_reset
  have m_stop := tm_stop
  have m_crypto := tm_crypto
  have m_newToken := tm_newToken
  have m_stream := tm_stream
  have m_maxData := tm_maxData
  have m_maxStreamData := tm_maxStreamData
  have m_maxStreams := tm_maxStreams
  have m_dataBlocked := tm_dataBlocked
  have m_streamBlocked := tm_streamBlocked
  have m_streamsBlocked := tm_streamsBlocked
  have m_newId := tm_newId
  have m_retireId := th_retireId
  have m_challenge := tm_challenge
  have m_response := tm_response
  have m_close := tm_close
  have m_appClose := tm_appClose
  have m_done := tm_done
  have m_datagram := tm_datagram
  go_enter Try.func46, Try.ntmps46
  go_wp2
  go_ret
  exact ⟨rfl, rfl⟩
set_option maxRecDepth 20000 in
set_option maxHeartbeats 1000000 in
theorem dl_retireId (v : Value) (w : World) : Calls Try.prog 47 #[.iface 119 v] w fun e w' => e = .returned (.tuple #[.int .i64 0, .int .i64 0]) ∧ w' = w := by
  have m_padding := tm_padding
  have m_ping := tm_ping
  have m_ack := tm_ack
  have m_reset := tm_reset
  have m_stop := tm_stop
  have m_crypto := tm_crypto
  have m_newToken := tm_newToken
  have m_stream := tm_stream
  have m_maxData := tm_maxData
  have m_maxStreamData := tm_maxStreamData
  have m_maxStreams := tm_maxStreams
  have m_dataBlocked := tm_dataBlocked
  have m_streamBlocked := tm_streamBlocked
  have m_streamsBlocked := tm_streamsBlocked
  have m_newId := tm_newId
  have m_retireId := th_retireId
  have m_challenge := tm_challenge
  have m_response := tm_response
  have m_close := tm_close
  have m_appClose := tm_appClose
  have m_done := tm_done
  have m_datagram := tm_datagram
  go_enter Try.func47, Try.ntmps47
  go_wp2
  refine bodyPost_ret (results_tmp2 rfl _ _ _) rfl ?_
  exact ⟨rfl, rfl⟩
set_option maxRecDepth 20000 in
set_option maxHeartbeats 1000000 in
theorem kf_challenge (v : Value) (w : World) : Calls Try.prog 46 #[.iface 124 v] w fun e w' => e = .returned (.int .i64 16) ∧ w' = w := by
  have m_padding := tm_padding
  have m_ping := tm_ping
  have m_ack := tm_ack
  have m_reset := tm_reset
  have m_stop := tm_stop
  have m_crypto := tm_crypto
  have m_newToken := tm_newToken
  have m_stream := tm_stream
  have m_maxData := tm_maxData
  have m_maxStreamData := tm_maxStreamData
  have m_maxStreams := tm_maxStreams
  have m_dataBlocked := tm_dataBlocked
  have m_streamBlocked := tm_streamBlocked
  have m_streamsBlocked := tm_streamsBlocked
  have m_newId := tm_newId
  have m_retireId := tm_retireId
  have m_challenge := th_challenge
  have m_response := tm_response
  have m_close := tm_close
  have m_appClose := tm_appClose
  have m_done := tm_done
  have m_datagram := tm_datagram
  go_enter Try.func46, Try.ntmps46
  go_wp2
  go_ret
  exact ⟨rfl, rfl⟩
set_option maxRecDepth 20000 in
set_option maxHeartbeats 1000000 in
theorem dl_challenge (v : Value) (w : World) : Calls Try.prog 47 #[.iface 124 v] w fun e w' => e = .returned (.tuple #[.int .i64 8, .int .i64 8]) ∧ w' = w := by
  have m_padding := tm_padding
  have m_ping := tm_ping
  have m_ack := tm_ack
  have m_reset := tm_reset
  have m_stop := tm_stop
  have m_crypto := tm_crypto
  have m_newToken := tm_newToken
  have m_stream := tm_stream
  have m_maxData := tm_maxData
  have m_maxStreamData := tm_maxStreamData
  have m_maxStreams := tm_maxStreams
  have m_dataBlocked := tm_dataBlocked
  have m_streamBlocked := tm_streamBlocked
  have m_streamsBlocked := tm_streamsBlocked
  have m_newId := tm_newId
  have m_retireId := tm_retireId
  have m_challenge := th_challenge
  have m_response := tm_response
  have m_close := tm_close
  have m_appClose := tm_appClose
  have m_done := tm_done
  have m_datagram := tm_datagram
  go_enter Try.func47, Try.ntmps47
  go_wp2
  refine bodyPost_ret (results_tmp2 rfl _ _ _) rfl ?_
  exact ⟨rfl, rfl⟩
set_option maxRecDepth 20000 in
set_option maxHeartbeats 1000000 in
theorem kf_response (v : Value) (w : World) : Calls Try.prog 46 #[.iface 125 v] w fun e w' => e = .returned (.int .i64 16) ∧ w' = w := by
  have m_padding := tm_padding
  have m_ping := tm_ping
  have m_ack := tm_ack
  have m_reset := tm_reset
  have m_stop := tm_stop
  have m_crypto := tm_crypto
  have m_newToken := tm_newToken
  have m_stream := tm_stream
  have m_maxData := tm_maxData
  have m_maxStreamData := tm_maxStreamData
  have m_maxStreams := tm_maxStreams
  have m_dataBlocked := tm_dataBlocked
  have m_streamBlocked := tm_streamBlocked
  have m_streamsBlocked := tm_streamsBlocked
  have m_newId := tm_newId
  have m_retireId := tm_retireId
  have m_challenge := tm_challenge
  have m_response := th_response
  have m_close := tm_close
  have m_appClose := tm_appClose
  have m_done := tm_done
  have m_datagram := tm_datagram
  go_enter Try.func46, Try.ntmps46
  go_wp2
  go_ret
  exact ⟨rfl, rfl⟩
set_option maxRecDepth 20000 in
set_option maxHeartbeats 1000000 in
theorem dl_response (v : Value) (w : World) : Calls Try.prog 47 #[.iface 125 v] w fun e w' => e = .returned (.tuple #[.int .i64 8, .int .i64 8]) ∧ w' = w := by
  have m_padding := tm_padding
  have m_ping := tm_ping
  have m_ack := tm_ack
  have m_reset := tm_reset
  have m_stop := tm_stop
  have m_crypto := tm_crypto
  have m_newToken := tm_newToken
  have m_stream := tm_stream
  have m_maxData := tm_maxData
  have m_maxStreamData := tm_maxStreamData
  have m_maxStreams := tm_maxStreams
  have m_dataBlocked := tm_dataBlocked
  have m_streamBlocked := tm_streamBlocked
  have m_streamsBlocked := tm_streamsBlocked
  have m_newId := tm_newId
  have m_retireId := tm_retireId
  have m_challenge := tm_challenge
  have m_response := th_response
  have m_close := tm_close
  have m_appClose := tm_appClose
  have m_done := tm_done
  have m_datagram := tm_datagram
  go_enter Try.func47, Try.ntmps47
  go_wp2
  refine bodyPost_ret (results_tmp2 rfl _ _ _) rfl ?_
  exact ⟨rfl, rfl⟩
set_option maxRecDepth 20000 in
set_option maxHeartbeats 1000000 in
theorem kf_close (v : Value) (w : World) : Calls Try.prog 46 #[.iface 126 v] w fun e w' => e = .returned (.int .i64 19) ∧ w' = w := by
  have m_padding := tm_padding
  have m_ping := tm_ping
  have m_ack := tm_ack
  have m_reset := tm_reset
  have m_stop := tm_stop
  have m_crypto := tm_crypto
  have m_newToken := tm_newToken
  have m_stream := tm_stream
  have m_maxData := tm_maxData
  have m_maxStreamData := tm_maxStreamData
  have m_maxStreams := tm_maxStreams
  have m_dataBlocked := tm_dataBlocked
  have m_streamBlocked := tm_streamBlocked
  have m_streamsBlocked := tm_streamsBlocked
  have m_newId := tm_newId
  have m_retireId := tm_retireId
  have m_challenge := tm_challenge
  have m_response := tm_response
  have m_close := th_close
  have m_appClose := tm_appClose
  have m_done := tm_done
  have m_datagram := tm_datagram
  go_enter Try.func46, Try.ntmps46
  go_wp2
  go_ret
  exact ⟨rfl, rfl⟩
set_option maxRecDepth 20000 in
set_option maxHeartbeats 1000000 in
theorem dl_close (v : Value) (w : World) : Calls Try.prog 47 #[.iface 126 v] w fun e w' => e = .returned (.tuple #[.int .i64 0, .int .i64 200]) ∧ w' = w := by
  have m_padding := tm_padding
  have m_ping := tm_ping
  have m_ack := tm_ack
  have m_reset := tm_reset
  have m_stop := tm_stop
  have m_crypto := tm_crypto
  have m_newToken := tm_newToken
  have m_stream := tm_stream
  have m_maxData := tm_maxData
  have m_maxStreamData := tm_maxStreamData
  have m_maxStreams := tm_maxStreams
  have m_dataBlocked := tm_dataBlocked
  have m_streamBlocked := tm_streamBlocked
  have m_streamsBlocked := tm_streamsBlocked
  have m_newId := tm_newId
  have m_retireId := tm_retireId
  have m_challenge := tm_challenge
  have m_response := tm_response
  have m_close := th_close
  have m_appClose := tm_appClose
  have m_done := tm_done
  have m_datagram := tm_datagram
  go_enter Try.func47, Try.ntmps47
  go_wp2
  refine bodyPost_ret (results_tmp2 rfl _ _ _) rfl ?_
  exact ⟨rfl, rfl⟩
set_option maxRecDepth 20000 in
set_option maxHeartbeats 1000000 in
theorem kf_appClose (v : Value) (w : World) : Calls Try.prog 46 #[.iface 127 v] w fun e w' => e = .returned (.int .i64 17) ∧ w' = w := by
  have m_padding := tm_padding
  have m_ping := tm_ping
  have m_ack := tm_ack
  have m_reset := tm_reset
  have m_stop := tm_stop
  have m_crypto := tm_crypto
  have m_newToken := tm_newToken
  have m_stream := tm_stream
  have m_maxData := tm_maxData
  have m_maxStreamData := tm_maxStreamData
  have m_maxStreams := tm_maxStreams
  have m_dataBlocked := tm_dataBlocked
  have m_streamBlocked := tm_streamBlocked
  have m_streamsBlocked := tm_streamsBlocked
  have m_newId := tm_newId
  have m_retireId := tm_retireId
  have m_challenge := tm_challenge
  have m_response := tm_response
  have m_close := tm_close
  have m_appClose := th_appClose
  have m_done := tm_done
  have m_datagram := tm_datagram
  go_enter Try.func46, Try.ntmps46
  go_wp2
  go_ret
  exact ⟨rfl, rfl⟩
set_option maxRecDepth 20000 in
set_option maxHeartbeats 1000000 in
theorem dl_appClose (v : Value) (w : World) : Calls Try.prog 47 #[.iface 127 v] w fun e w' => e = .returned (.tuple #[.int .i64 0, .int .i64 200]) ∧ w' = w := by
  have m_padding := tm_padding
  have m_ping := tm_ping
  have m_ack := tm_ack
  have m_reset := tm_reset
  have m_stop := tm_stop
  have m_crypto := tm_crypto
  have m_newToken := tm_newToken
  have m_stream := tm_stream
  have m_maxData := tm_maxData
  have m_maxStreamData := tm_maxStreamData
  have m_maxStreams := tm_maxStreams
  have m_dataBlocked := tm_dataBlocked
  have m_streamBlocked := tm_streamBlocked
  have m_streamsBlocked := tm_streamsBlocked
  have m_newId := tm_newId
  have m_retireId := tm_retireId
  have m_challenge := tm_challenge
  have m_response := tm_response
  have m_close := tm_close
  have m_appClose := th_appClose
  have m_done := tm_done
  have m_datagram := tm_datagram
  go_enter Try.func47, Try.ntmps47
  go_wp2
  refine bodyPost_ret (results_tmp2 rfl _ _ _) rfl ?_
  exact ⟨rfl, rfl⟩
set_option maxRecDepth 20000 in
set_option maxHeartbeats 1000000 in
theorem kf_done (v : Value) (w : World) : Calls Try.prog 46 #[.iface 128 v] w fun e w' => e = .returned (.int .i64 0) ∧ w' = w := by
  have m_padding := tm_padding
  have m_ping := tm_ping
  have m_ack := tm_ack
  have m_reset := tm_reset
  have m_stop := tm_stop
  have m_crypto := tm_crypto
  have m_newToken := tm_newToken
  have m_stream := tm_stream
  have m_maxData := tm_maxData
  have m_maxStreamData := tm_maxStreamData
  have m_maxStreams := tm_maxStreams
  have m_dataBlocked := tm_dataBlocked
  have m_streamBlocked := tm_streamBlocked
  have m_streamsBlocked := tm_streamsBlocked
  have m_newId := tm_newId
  have m_retireId := tm_retireId
  have m_challenge := tm_challenge
  have m_response := tm_response
  have m_close := tm_close
  have m_appClose := tm_appClose
  have m_done := th_done
  have m_datagram := tm_datagram
  go_enter Try.func46, Try.ntmps46
  go_wp2
  go_ret
  exact ⟨rfl, rfl⟩
set_option maxRecDepth 20000 in
set_option maxHeartbeats 1000000 in
theorem dl_done (v : Value) (w : World) : Calls Try.prog 47 #[.iface 128 v] w fun e w' => e = .returned (.tuple #[.int .i64 0, .int .i64 0]) ∧ w' = w := by
  have m_padding := tm_padding
  have m_ping := tm_ping
  have m_ack := tm_ack
  have m_reset := tm_reset
  have m_stop := tm_stop
  have m_crypto := tm_crypto
  have m_newToken := tm_newToken
  have m_stream := tm_stream
  have m_maxData := tm_maxData
  have m_maxStreamData := tm_maxStreamData
  have m_maxStreams := tm_maxStreams
  have m_dataBlocked := tm_dataBlocked
  have m_streamBlocked := tm_streamBlocked
  have m_streamsBlocked := tm_streamsBlocked
  have m_newId := tm_newId
  have m_retireId := tm_retireId
  have m_challenge := tm_challenge
  have m_response := tm_response
  have m_close := tm_close
  have m_appClose := tm_appClose
  have m_done := th_done
  have m_datagram := tm_datagram
  go_enter Try.func47, Try.ntmps47
  go_wp2
  refine bodyPost_ret (results_tmp2 rfl _ _ _) rfl ?_
  exact ⟨rfl, rfl⟩
set_option maxRecDepth 20000 in
set_option maxHeartbeats 1000000 in
theorem kf_datagram (v : Value) (w : World) : Calls Try.prog 46 #[.iface 129 v] w fun e w' => e = .returned (.int .i64 16) ∧ w' = w := by
  have m_padding := tm_padding
  have m_ping := tm_ping
  have m_ack := tm_ack
  have m_reset := tm_reset
  have m_stop := tm_stop
  have m_crypto := tm_crypto
  have m_newToken := tm_newToken
  have m_stream := tm_stream
  have m_maxData := tm_maxData
  have m_maxStreamData := tm_maxStreamData
  have m_maxStreams := tm_maxStreams
  have m_dataBlocked := tm_dataBlocked
  have m_streamBlocked := tm_streamBlocked
  have m_streamsBlocked := tm_streamsBlocked
  have m_newId := tm_newId
  have m_retireId := tm_retireId
  have m_challenge := tm_challenge
  have m_response := tm_response
  have m_close := tm_close
  have m_appClose := tm_appClose
  have m_done := tm_done
  have m_datagram := th_datagram
  go_enter Try.func46, Try.ntmps46
  go_wp2
  go_ret
  exact ⟨rfl, rfl⟩
set_option maxRecDepth 20000 in
set_option maxHeartbeats 1000000 in
theorem dl_datagram (v : Value) (w : World) : Calls Try.prog 47 #[.iface 129 v] w fun e w' => e = .returned (.tuple #[.int .i64 0, .int .i64 1500]) ∧ w' = w := by
  have m_padding := tm_padding
  have m_ping := tm_ping
  have m_ack := tm_ack
  have m_reset := tm_reset
  have m_stop := tm_stop
  have m_crypto := tm_crypto
  have m_newToken := tm_newToken
  have m_stream := tm_stream
  have m_maxData := tm_maxData
  have m_maxStreamData := tm_maxStreamData
  have m_maxStreams := tm_maxStreams
  have m_dataBlocked := tm_dataBlocked
  have m_streamBlocked := tm_streamBlocked
  have m_streamsBlocked := tm_streamsBlocked
  have m_newId := tm_newId
  have m_retireId := tm_retireId
  have m_challenge := tm_challenge
  have m_response := tm_response
  have m_close := tm_close
  have m_appClose := tm_appClose
  have m_done := tm_done
  have m_datagram := th_datagram
  go_enter Try.func47, Try.ntmps47
  go_wp2
  refine bodyPost_ret (results_tmp2 rfl _ _ _) rfl ?_
  exact ⟨rfl, rfl⟩
end Go.Proofs.Ytaodcahkkeobdaa
