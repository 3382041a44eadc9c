import Derived.Test.YtlbiaiohjohgiaaAssert
namespace Go.Proofs.Ytlbiaiohjohgiaa
open Go.RowKit
set_option linter.unusedVariables false

set_option maxRecDepth 20000 in
set_option maxHeartbeats 1000000 in
theorem kf_padding (v : Value) (w : World) : Calls Try.prog 36 #[.iface 86 v] w fun e w' => e = .returned (.int .i64 1) ∧ w' = w := by
  have m_padding := th_padding
  have m_ping := tm_ping
  have m_ack := tm_ack
  have m_reset := tm_reset
  have m_stop := tm_stop
  have m_crypto := tm_crypto
  have m_newToken := tm_newToken
  have m_stream := tm_stream
  have m_maxData := tm_maxData
  have m_maxStreamData := tm_maxStreamData
  have m_maxStreams := tm_maxStreams
  have m_dataBlocked := tm_dataBlocked
  have m_streamBlocked := tm_streamBlocked
  have m_streamsBlocked := tm_streamsBlocked
  have m_newId := tm_newId
  have m_retireId := tm_retireId
  have m_challenge := tm_challenge
  have m_response := tm_response
  have m_close := tm_close
  have m_appClose := tm_appClose
  have m_done := tm_done
  have m_datagram := tm_datagram
  go_enter Try.func36, Try.ntmps36
  go_wp2
  go_ret
  exact ⟨rfl, rfl⟩
set_option maxRecDepth 20000 in
set_option maxHeartbeats 1000000 in
theorem dl_padding (v : Value) (w : World) : Calls Try.prog 37 #[.iface 86 v] w fun e w' => e = .returned (.tuple #[.int .i64 0, .int .i64 0]) ∧ w' = w := by
  have m_padding := th_padding
  have m_ping := tm_ping
  have m_ack := tm_ack
  have m_reset := tm_reset
  have m_stop := tm_stop
  have m_crypto := tm_crypto
  have m_newToken := tm_newToken
  have m_stream := tm_stream
  have m_maxData := tm_maxData
  have m_maxStreamData := tm_maxStreamData
  have m_maxStreams := tm_maxStreams
  have m_dataBlocked := tm_dataBlocked
  have m_streamBlocked := tm_streamBlocked
  have m_streamsBlocked := tm_streamsBlocked
  have m_newId := tm_newId
  have m_retireId := tm_retireId
  have m_challenge := tm_challenge
  have m_response := tm_response
  have m_close := tm_close
  have m_appClose := tm_appClose
  have m_done := tm_done
  have m_datagram := tm_datagram
  go_enter Try.func37, Try.ntmps37
  go_wp2
  refine bodyPost_ret (results_tmp2 rfl _ _ _) rfl ?_
  exact ⟨rfl, rfl⟩
set_option maxRecDepth 20000 in
set_option maxHeartbeats 1000000 in
theorem kf_ping (v : Value) (w : World) : Calls Try.prog 36 #[.iface 88 v] w fun e w' => e = .returned (.int .i64 0) ∧ w' = w := by
  have m_padding := tm_padding
  have m_ping := th_ping
  have m_ack := tm_ack
  have m_reset := tm_reset
  have m_stop := tm_stop
  have m_crypto := tm_crypto
  have m_newToken := tm_newToken
  have m_stream := tm_stream
  have m_maxData := tm_maxData
  have m_maxStreamData := tm_maxStreamData
  have m_maxStreams := tm_maxStreams
  have m_dataBlocked := tm_dataBlocked
  have m_streamBlocked := tm_streamBlocked
  have m_streamsBlocked := tm_streamsBlocked
  have m_newId := tm_newId
  have m_retireId := tm_retireId
  have m_challenge := tm_challenge
  have m_response := tm_response
  have m_close := tm_close
  have m_appClose := tm_appClose
  have m_done := tm_done
  have m_datagram := tm_datagram
  go_enter Try.func36, Try.ntmps36
  go_wp2
  go_ret
  exact ⟨rfl, rfl⟩
set_option maxRecDepth 20000 in
set_option maxHeartbeats 1000000 in
theorem dl_ping (v : Value) (w : World) : Calls Try.prog 37 #[.iface 88 v] w fun e w' => e = .returned (.tuple #[.int .i64 0, .int .i64 0]) ∧ w' = w := by
  have m_padding := tm_padding
  have m_ping := th_ping
  have m_ack := tm_ack
  have m_reset := tm_reset
  have m_stop := tm_stop
  have m_crypto := tm_crypto
  have m_newToken := tm_newToken
  have m_stream := tm_stream
  have m_maxData := tm_maxData
  have m_maxStreamData := tm_maxStreamData
  have m_maxStreams := tm_maxStreams
  have m_dataBlocked := tm_dataBlocked
  have m_streamBlocked := tm_streamBlocked
  have m_streamsBlocked := tm_streamsBlocked
  have m_newId := tm_newId
  have m_retireId := tm_retireId
  have m_challenge := tm_challenge
  have m_response := tm_response
  have m_close := tm_close
  have m_appClose := tm_appClose
  have m_done := tm_done
  have m_datagram := tm_datagram
  go_enter Try.func37, Try.ntmps37
  go_wp2
  refine bodyPost_ret (results_tmp2 rfl _ _ _) rfl ?_
  exact ⟨rfl, rfl⟩
set_option maxRecDepth 20000 in
set_option maxHeartbeats 1000000 in
theorem kf_ack (v : Value) (w : World) : Calls Try.prog 36 #[.iface 89 v] w fun e w' => e = .returned (.int .i64 65) ∧ w' = w := by
  have m_padding := tm_padding
  have m_ping := tm_ping
  have m_ack := th_ack
  have m_reset := tm_reset
  have m_stop := tm_stop
  have m_crypto := tm_crypto
  have m_newToken := tm_newToken
  have m_stream := tm_stream
  have m_maxData := tm_maxData
  have m_maxStreamData := tm_maxStreamData
  have m_maxStreams := tm_maxStreams
  have m_dataBlocked := tm_dataBlocked
  have m_streamBlocked := tm_streamBlocked
  have m_streamsBlocked := tm_streamsBlocked
  have m_newId := tm_newId
  have m_retireId := tm_retireId
  have m_challenge := tm_challenge
  have m_response := tm_response
  have m_close := tm_close
  have m_appClose := tm_appClose
  have m_done := tm_done
  have m_datagram := tm_datagram
  go_enter Try.func36, Try.ntmps36
  go_wp2
  go_ret
  exact ⟨rfl, rfl⟩
set_option maxRecDepth 20000 in
set_option maxHeartbeats 1000000 in
theorem dl_ack (v : Value) (w : World) : Calls Try.prog 37 #[.iface 89 v] w fun e w' => e = .returned (.tuple #[.int .i64 0, .int .i64 0]) ∧ w' = w := by
  have m_padding := tm_padding
  have m_ping := tm_ping
  have m_ack := th_ack
  have m_reset := tm_reset
  have m_stop := tm_stop
  have m_crypto := tm_crypto
  have m_newToken := tm_newToken
  have m_stream := tm_stream
  have m_maxData := tm_maxData
  have m_maxStreamData := tm_maxStreamData
  have m_maxStreams := tm_maxStreams
  have m_dataBlocked := tm_dataBlocked
  have m_streamBlocked := tm_streamBlocked
  have m_streamsBlocked := tm_streamsBlocked
  have m_newId := tm_newId
  have m_retireId := tm_retireId
  have m_challenge := tm_challenge
  have m_response := tm_response
  have m_close := tm_close
  have m_appClose := tm_appClose
  have m_done := tm_done
  have m_datagram := tm_datagram
  go_enter Try.func37, Try.ntmps37
  go_wp2
  refine bodyPost_ret (results_tmp2 rfl _ _ _) rfl ?_
  exact ⟨rfl, rfl⟩
set_option maxRecDepth 20000 in
set_option maxHeartbeats 1000000 in
theorem kf_reset (v : Value) (w : World) : Calls Try.prog 36 #[.iface 91 v] w fun e w' => e = .returned (.int .i64 7) ∧ w' = w := by
  have m_padding := tm_padding
  have m_ping := tm_ping
  have m_ack := tm_ack
  have m_reset := th_reset
  have m_stop := tm_stop
  have m_crypto := tm_crypto
  have m_newToken := tm_newToken
  have m_stream := tm_stream
  have m_maxData := tm_maxData
  have m_maxStreamData := tm_maxStreamData
  have m_maxStreams := tm_maxStreams
  have m_dataBlocked := tm_dataBlocked
  have m_streamBlocked := tm_streamBlocked
  have m_streamsBlocked := tm_streamsBlocked
  have m_newId := tm_newId
  have m_retireId := tm_retireId
  have m_challenge := tm_challenge
  have m_response := tm_response
  have m_close := tm_close
  have m_appClose := tm_appClose
  have m_done := tm_done
  have m_datagram := tm_datagram
  go_enter Try.func36, Try.ntmps36
  go_wp2
  go_ret
  exact ⟨rfl, rfl⟩
set_option maxRecDepth 20000 in
set_option maxHeartbeats 1000000 in
theorem dl_reset (v : Value) (w : World) : Calls Try.prog 37 #[.iface 91 v] w fun e w' => e = .returned (.tuple #[.int .i64 0, .int .i64 0]) ∧ w' = w := by
  have m_padding := tm_padding
  have m_ping := tm_ping
  have m_ack := tm_ack
  have m_reset := th_reset
  have m_stop := tm_stop
  have m_crypto := tm_crypto
  have m_newToken := tm_newToken
  have m_stream := tm_stream
  have m_maxData := tm_maxData
  have m_maxStreamData := tm_maxStreamData
  have m_maxStreams := tm_maxStreams
  have m_dataBlocked := tm_dataBlocked
  have m_streamBlocked := tm_streamBlocked
  have m_streamsBlocked := tm_streamsBlocked
  have m_newId := tm_newId
  have m_retireId := tm_retireId
  have m_challenge := tm_challenge
  have m_response := tm_response
  have m_close := tm_close
  have m_appClose := tm_appClose
  have m_done := tm_done
  have m_datagram := tm_datagram
  go_enter Try.func37, Try.ntmps37
  go_wp2
  refine bodyPost_ret (results_tmp2 rfl _ _ _) rfl ?_
  exact ⟨rfl, rfl⟩
set_option maxRecDepth 20000 in
set_option maxHeartbeats 1000000 in
theorem kf_stop (v : Value) (w : World) : Calls Try.prog 36 #[.iface 92 v] w fun e w' => e = .returned (.int .i64 3) ∧ w' = w := by
  have m_padding := tm_padding
  have m_ping := tm_ping
  have m_ack := tm_ack
  have m_reset := tm_reset
  have m_stop := th_stop
  have m_crypto := tm_crypto
  have m_newToken := tm_newToken
  have m_stream := tm_stream
  have m_maxData := tm_maxData
  have m_maxStreamData := tm_maxStreamData
  have m_maxStreams := tm_maxStreams
  have m_dataBlocked := tm_dataBlocked
  have m_streamBlocked := tm_streamBlocked
  have m_streamsBlocked := tm_streamsBlocked
  have m_newId := tm_newId
  have m_retireId := tm_retireId
  have m_challenge := tm_challenge
  have m_response := tm_response
  have m_close := tm_close
  have m_appClose := tm_appClose
  have m_done := tm_done
  have m_datagram := tm_datagram
  go_enter Try.func36, Try.ntmps36
  go_wp2
  go_ret
  exact ⟨rfl, rfl⟩
set_option maxRecDepth 20000 in
set_option maxHeartbeats 1000000 in
theorem dl_stop (v : Value) (w : World) : Calls Try.prog 37 #[.iface 92 v] w fun e w' => e = .returned (.tuple #[.int .i64 0, .int .i64 0]) ∧ w' = w := by
  have m_padding := tm_padding
  have m_ping := tm_ping
  have m_ack := tm_ack
  have m_reset := tm_reset
  have m_stop := th_stop
  have m_crypto := tm_crypto
  have m_newToken := tm_newToken
  have m_stream := tm_stream
  have m_maxData := tm_maxData
  have m_maxStreamData := tm_maxStreamData
  have m_maxStreams := tm_maxStreams
  have m_dataBlocked := tm_dataBlocked
  have m_streamBlocked := tm_streamBlocked
  have m_streamsBlocked := tm_streamsBlocked
  have m_newId := tm_newId
  have m_retireId := tm_retireId
  have m_challenge := tm_challenge
  have m_response := tm_response
  have m_close := tm_close
  have m_appClose := tm_appClose
  have m_done := tm_done
  have m_datagram := tm_datagram
  go_enter Try.func37, Try.ntmps37
  go_wp2
  refine bodyPost_ret (results_tmp2 rfl _ _ _) rfl ?_
  exact ⟨rfl, rfl⟩
set_option maxRecDepth 20000 in
set_option maxHeartbeats 1000000 in
theorem kf_crypto (v : Value) (w : World) : Calls Try.prog 36 #[.iface 94 v] w fun e w' => e = .returned (.int .i64 17) ∧ w' = w := by
  have m_padding := tm_padding
  have m_ping := tm_ping
  have m_ack := tm_ack
  have m_reset := tm_reset
  have m_stop := tm_stop
  have m_crypto := th_crypto
  have m_newToken := tm_newToken
  have m_stream := tm_stream
  have m_maxData := tm_maxData
  have m_maxStreamData := tm_maxStreamData
  have m_maxStreams := tm_maxStreams
  have m_dataBlocked := tm_dataBlocked
  have m_streamBlocked := tm_streamBlocked
  have m_streamsBlocked := tm_streamsBlocked
  have m_newId := tm_newId
  have m_retireId := tm_retireId
  have m_challenge := tm_challenge
  have m_response := tm_response
  have m_close := tm_close
  have m_appClose := tm_appClose
  have m_done := tm_done
  have m_datagram := tm_datagram
  go_enter Try.func36, Try.ntmps36
  go_wp2
  go_ret
  exact ⟨rfl, rfl⟩
set_option maxRecDepth 20000 in
set_option maxHeartbeats 1000000 in
theorem dl_crypto (v : Value) (w : World) : Calls Try.prog 37 #[.iface 94 v] w fun e w' => e = .returned (.tuple #[.int .i64 0, .int .i64 1500]) ∧ w' = w := by
  have m_padding := tm_padding
  have m_ping := tm_ping
  have m_ack := tm_ack
  have m_reset := tm_reset
  have m_stop := tm_stop
  have m_crypto := th_crypto
  have m_newToken := tm_newToken
  have m_stream := tm_stream
  have m_maxData := tm_maxData
  have m_maxStreamData := tm_maxStreamData
  have m_maxStreams := tm_maxStreams
  have m_dataBlocked := tm_dataBlocked
  have m_streamBlocked := tm_streamBlocked
  have m_streamsBlocked := tm_streamsBlocked
  have m_newId := tm_newId
  have m_retireId := tm_retireId
  have m_challenge := tm_challenge
  have m_response := tm_response
  have m_close := tm_close
  have m_appClose := tm_appClose
  have m_done := tm_done
  have m_datagram := tm_datagram
  go_enter Try.func37, Try.ntmps37
  go_wp2
  refine bodyPost_ret (results_tmp2 rfl _ _ _) rfl ?_
  exact ⟨rfl, rfl⟩
set_option maxRecDepth 20000 in
set_option maxHeartbeats 1000000 in
theorem kf_newToken (v : Value) (w : World) : Calls Try.prog 36 #[.iface 96 v] w fun e w' => e = .returned (.int .i64 16) ∧ w' = w := by
  have m_padding := tm_padding
  have m_ping := tm_ping
  have m_ack := tm_ack
  have m_reset := tm_reset
  have m_stop := tm_stop
  have m_crypto := tm_crypto
  have m_newToken := th_newToken
  have m_stream := tm_stream
  have m_maxData := tm_maxData
  have m_maxStreamData := tm_maxStreamData
  have m_maxStreams := tm_maxStreams
  have m_dataBlocked := tm_dataBlocked
  have m_streamBlocked := tm_streamBlocked
  have m_streamsBlocked := tm_streamsBlocked
  have m_newId := tm_newId
  have m_retireId := tm_retireId
  have m_challenge := tm_challenge
  have m_response := tm_response
  have m_close := tm_close
  have m_appClose := tm_appClose
  have m_done := tm_done
  have m_datagram := tm_datagram
  go_enter Try.func36, Try.ntmps36
  go_wp2
  go_ret
  exact ⟨rfl, rfl⟩
set_option maxRecDepth 20000 in
set_option maxHeartbeats 1000000 in
theorem dl_newToken (v : Value) (w : World) : Calls Try.prog 37 #[.iface 96 v] w fun e w' => e = .returned (.tuple #[.int .i64 1, .int .i64 64]) ∧ w' = w := by
  have m_padding := tm_padding
  have m_ping := tm_ping
  have m_ack := tm_ack
  have m_reset := tm_reset
  have m_stop := tm_stop
  have m_crypto := tm_crypto
  have m_newToken := th_newToken
  have m_stream := tm_stream
  have m_maxData := tm_maxData
  have m_maxStreamData := tm_maxStreamData
  have m_maxStreams := tm_maxStreams
  have m_dataBlocked := tm_dataBlocked
  have m_streamBlocked := tm_streamBlocked
  have m_streamsBlocked := tm_streamsBlocked
  have m_newId := tm_newId
  have m_retireId := tm_retireId
  have m_challenge := tm_challenge
  have m_response := tm_response
  have m_close := tm_close
  have m_appClose := tm_appClose
  have m_done := tm_done
  have m_datagram := tm_datagram
  go_enter Try.func37, Try.ntmps37
  go_wp2
  refine bodyPost_ret (results_tmp2 rfl _ _ _) rfl ?_
  exact ⟨rfl, rfl⟩
set_option maxRecDepth 20000 in
set_option maxHeartbeats 1000000 in
theorem kf_stream (v : Value) (w : World) : Calls Try.prog 36 #[.iface 97 v] w fun e w' => e = .returned (.int .i64 27) ∧ w' = w := by
  have m_padding := tm_padding
  have m_ping := tm_ping
  have m_ack := tm_ack
  have m_reset := tm_reset
  have m_stop := tm_stop
  have m_crypto := tm_crypto
  have m_newToken := tm_newToken
  have m_stream := th_stream
  have m_maxData := tm_maxData
  have m_maxStreamData := tm_maxStreamData
  have m_maxStreams := tm_maxStreams
  have m_dataBlocked := tm_dataBlocked
  have m_streamBlocked := tm_streamBlocked
  have m_streamsBlocked := tm_streamsBlocked
  have m_newId := tm_newId
  have m_retireId := tm_retireId
  have m_challenge := tm_challenge
  have m_response := tm_response
  have m_close := tm_close
  have m_appClose := tm_appClose
  have m_done := tm_done
  have m_datagram := tm_datagram
  go_enter Try.func36, Try.ntmps36
  go_wp2
  go_ret
  exact ⟨rfl, rfl⟩
set_option maxRecDepth 20000 in
set_option maxHeartbeats 1000000 in
theorem dl_stream (v : Value) (w : World) : Calls Try.prog 37 #[.iface 97 v] w fun e w' => e = .returned (.tuple #[.int .i64 0, .int .i64 1500]) ∧ w' = w := by
  have m_padding := tm_padding
  have m_ping := tm_ping
  have m_ack := tm_ack
  have m_reset := tm_reset
  have m_stop := tm_stop
  have m_crypto := tm_crypto
  have m_newToken := tm_newToken
  have m_stream := th_stream
  have m_maxData := tm_maxData
  have m_maxStreamData := tm_maxStreamData
  have m_maxStreams := tm_maxStreams
  have m_dataBlocked := tm_dataBlocked
  have m_streamBlocked := tm_streamBlocked
  have m_streamsBlocked := tm_streamsBlocked
  have m_newId := tm_newId
  have m_retireId := tm_retireId
  have m_challenge := tm_challenge
  have m_response := tm_response
  have m_close := tm_close
  have m_appClose := tm_appClose
  have m_done := tm_done
  have m_datagram := tm_datagram
  go_enter Try.func37, Try.ntmps37
  go_wp2
  refine bodyPost_ret (results_tmp2 rfl _ _ _) rfl ?_
  exact ⟨rfl, rfl⟩
set_option maxRecDepth 20000 in
set_option maxHeartbeats 1000000 in
theorem kf_maxData (v : Value) (w : World) : Calls Try.prog 36 #[.iface 99 v] w fun e w' => e = .returned (.int .i64 1) ∧ w' = w := by
  have m_padding := tm_padding
  have m_ping := tm_ping
  have m_ack := tm_ack
  have m_reset := tm_reset
  have m_stop := tm_stop
  have m_crypto := tm_crypto
  have m_newToken := tm_newToken
  have m_stream := tm_stream
  have m_maxData := th_maxData
  have m_maxStreamData := tm_maxStreamData
  have m_maxStreams := tm_maxStreams
  have m_dataBlocked := tm_dataBlocked
  have m_streamBlocked := tm_streamBlocked
  have m_streamsBlocked := tm_streamsBlocked
  have m_newId := tm_newId
  have m_retireId := tm_retireId
  have m_challenge := tm_challenge
  have m_response := tm_response
  have m_close := tm_close
  have m_appClose := tm_appClose
  have m_done := tm_done
  have m_datagram := tm_datagram
  go_enter Try.func36, Try.ntmps36
  go_wp2
  go_ret
  exact ⟨rfl, rfl⟩
set_option maxRecDepth 20000 in
set_option maxHeartbeats 1000000 in
theorem dl_maxData (v : Value) (w : World) : Calls Try.prog 37 #[.iface 99 v] w fun e w' => e = .returned (.tuple #[.int .i64 0, .int .i64 0]) ∧ w' = w := by
  have m_padding := tm_padding
  have m_ping := tm_ping
  have m_ack := tm_ack
  have m_reset := tm_reset
  have m_stop := tm_stop
  have m_crypto := tm_crypto
  have m_newToken := tm_newToken
  have m_stream := tm_stream
  have m_maxData := th_maxData
  have m_maxStreamData := tm_maxStreamData
  have m_maxStreams := tm_maxStreams
  have m_dataBlocked := tm_dataBlocked
  have m_streamBlocked := tm_streamBlocked
  have m_streamsBlocked := tm_streamsBlocked
  have m_newId := tm_newId
  have m_retireId := tm_retireId
  have m_challenge := tm_challenge
  have m_response := tm_response
  have m_close := tm_close
  have m_appClose := tm_appClose
  have m_done := tm_done
  have m_datagram := tm_datagram
  go_enter Try.func37, Try.ntmps37
  go_wp2
  refine bodyPost_ret (results_tmp2 rfl _ _ _) rfl ?_
  exact ⟨rfl, rfl⟩
set_option maxRecDepth 20000 in
set_option maxHeartbeats 1000000 in
theorem kf_maxStreamData (v : Value) (w : World) : Calls Try.prog 36 #[.iface 100 v] w fun e w' => e = .returned (.int .i64 3) ∧ w' = w := by
  have m_padding := tm_padding
  have m_ping := tm_ping
  have m_ack := tm_ack
  have m_reset := tm_reset
  have m_stop := tm_stop
  have m_crypto := tm_crypto
  have m_newToken := tm_newToken
  have m_stream := tm_stream
  have m_maxData := tm_maxData
  have m_maxStreamData := th_maxStreamData
  have m_maxStreams := tm_maxStreams
  have m_dataBlocked := tm_dataBlocked
  have m_streamBlocked := tm_streamBlocked
  have m_streamsBlocked := tm_streamsBlocked
  have m_newId := tm_newId
  have m_retireId := tm_retireId
  have m_challenge := tm_challenge
  have m_response := tm_response
  have m_close := tm_close
  have m_appClose := tm_appClose
  have m_done := tm_done
  have m_datagram := tm_datagram
  go_enter Try.func36, Try.ntmps36
  go_wp2
  go_ret
  exact ⟨rfl, rfl⟩
set_option maxRecDepth 20000 in
set_option maxHeartbeats 1000000 in
theorem dl_maxStreamData (v : Value) (w : World) : Calls Try.prog 37 #[.iface 100 v] w fun e w' => e = .returned (.tuple #[.int .i64 0, .int .i64 0]) ∧ w' = w := by
  have m_padding := tm_padding
  have m_ping := tm_ping
  have m_ack := tm_ack
  have m_reset := tm_reset
  have m_stop := tm_stop
  have m_crypto := tm_crypto
  have m_newToken := tm_newToken
  have m_stream := tm_stream
  have m_maxData := tm_maxData
  have m_maxStreamData := th_maxStreamData
  have m_maxStreams := tm_maxStreams
  have m_dataBlocked := tm_dataBlocked
  have m_streamBlocked := tm_streamBlocked
  have m_streamsBlocked := tm_streamsBlocked
  have m_newId := tm_newId
  have m_retireId := tm_retireId
  have m_challenge := tm_challenge
  have m_response := tm_response
  have m_close := tm_close
  have m_appClose := tm_appClose
  have m_done := tm_done
  have m_datagram := tm_datagram
  go_enter Try.func37, Try.ntmps37
  go_wp2
  refine bodyPost_ret (results_tmp2 rfl _ _ _) rfl ?_
  exact ⟨rfl, rfl⟩
set_option maxRecDepth 20000 in
set_option maxHeartbeats 1000000 in
theorem kf_maxStreams (v : Value) (w : World) : Calls Try.prog 36 #[.iface 102 v] w fun e w' => e = .returned (.int .i64 3) ∧ w' = w := by
  have m_padding := tm_padding
  have m_ping := tm_ping
  have m_ack := tm_ack
  have m_reset := tm_reset
  have m_stop := tm_stop
  have m_crypto := tm_crypto
  have m_newToken := tm_newToken
  have m_stream := tm_stream
  have m_maxData := tm_maxData
  have m_maxStreamData := tm_maxStreamData
  have m_maxStreams := th_maxStreams
  have m_dataBlocked := tm_dataBlocked
  have m_streamBlocked := tm_streamBlocked
  have m_streamsBlocked := tm_streamsBlocked
  have m_newId := tm_newId
  have m_retireId := tm_retireId
  have m_challenge := tm_challenge
  have m_response := tm_response
  have m_close := tm_close
  have m_appClose := tm_appClose
  have m_done := tm_done
  have m_datagram := tm_datagram
  go_enter Try.func36, Try.ntmps36
  go_wp2
  go_ret
  exact ⟨rfl, rfl⟩
set_option maxRecDepth 20000 in
set_option maxHeartbeats 1000000 in
theorem dl_maxStreams (v : Value) (w : World) : Calls Try.prog 37 #[.iface 102 v] w fun e w' => e = .returned (.tuple #[.int .i64 0, .int .i64 0]) ∧ w' = w := by
  have m_padding := tm_padding
  have m_ping := tm_ping
  have m_ack := tm_ack
  have m_reset := tm_reset
  have m_stop := tm_stop
  have m_crypto := tm_crypto
  have m_newToken := tm_newToken
  have m_stream := tm_stream
  have m_maxData := tm_maxData
  have m_maxStreamData := tm_maxStreamData
  have m_maxStreams := th_maxStreams
  have m_dataBlocked := tm_dataBlocked
  have m_streamBlocked := tm_streamBlocked
  have m_streamsBlocked := tm_streamsBlocked
  have m_newId := tm_newId
  have m_retireId := tm_retireId
  have m_challenge := tm_challenge
  have m_response := tm_response
  have m_close := tm_close
  have m_appClose := tm_appClose
  have m_done := tm_done
  have m_datagram := tm_datagram
  go_enter Try.func37, Try.ntmps37
  go_wp2
  refine bodyPost_ret (results_tmp2 rfl _ _ _) rfl ?_
  exact ⟨rfl, rfl⟩
set_option maxRecDepth 20000 in
set_option maxHeartbeats 1000000 in
theorem kf_dataBlocked (v : Value) (w : World) : Calls Try.prog 36 #[.iface 103 v] w fun e w' => e = .returned (.int .i64 1) ∧ w' = w := by
  have m_padding := tm_padding
  have m_ping := tm_ping
  have m_ack := tm_ack
  have m_reset := tm_reset
  have m_stop := tm_stop
  have m_crypto := tm_crypto
  have m_newToken := tm_newToken
  have m_stream := tm_stream
  have m_maxData := tm_maxData
  have m_maxStreamData := tm_maxStreamData
  have m_maxStreams := tm_maxStreams
  have m_dataBlocked := th_dataBlocked
  have m_streamBlocked := tm_streamBlocked
  have m_streamsBlocked := tm_streamsBlocked
  have m_newId := tm_newId
  have m_retireId := tm_retireId
  have m_challenge := tm_challenge
  have m_response := tm_response
  have m_close := tm_close
  have m_appClose := tm_appClose
  have m_done := tm_done
  have m_datagram := tm_datagram
  go_enter Try.func36, Try.ntmps36
  go_wp2
  go_ret
  exact ⟨rfl, rfl⟩
set_option maxRecDepth 20000 in
set_option maxHeartbeats 1000000 in
theorem dl_dataBlocked (v : Value) (w : World) : Calls Try.prog 37 #[.iface 103 v] w fun e w' => e = .returned (.tuple #[.int .i64 0, .int .i64 0]) ∧ w' = w := by
  have m_padding := tm_padding
  have m_ping := tm_ping
  have m_ack := tm_ack
  have m_reset := tm_reset
  have m_stop := tm_stop
  have m_crypto := tm_crypto
  have m_newToken := tm_newToken
  have m_stream := tm_stream
  have m_maxData := tm_maxData
  have m_maxStreamData := tm_maxStreamData
  have m_maxStreams := tm_maxStreams
  have m_dataBlocked := th_dataBlocked
  have m_streamBlocked := tm_streamBlocked
  have m_streamsBlocked := tm_streamsBlocked
  have m_newId := tm_newId
  have m_retireId := tm_retireId
  have m_challenge := tm_challenge
  have m_response := tm_response
  have m_close := tm_close
  have m_appClose := tm_appClose
  have m_done := tm_done
  have m_datagram := tm_datagram
  go_enter Try.func37, Try.ntmps37
  go_wp2
  refine bodyPost_ret (results_tmp2 rfl _ _ _) rfl ?_
  exact ⟨rfl, rfl⟩
set_option maxRecDepth 20000 in
set_option maxHeartbeats 1000000 in
theorem kf_streamBlocked (v : Value) (w : World) : Calls Try.prog 36 #[.iface 104 v] w fun e w' => e = .returned (.int .i64 3) ∧ w' = w := by
  have m_padding := tm_padding
  have m_ping := tm_ping
  have m_ack := tm_ack
  have m_reset := tm_reset
  have m_stop := tm_stop
  have m_crypto := tm_crypto
  have m_newToken := tm_newToken
  have m_stream := tm_stream
  have m_maxData := tm_maxData
  have m_maxStreamData := tm_maxStreamData
  have m_maxStreams := tm_maxStreams
  have m_dataBlocked := tm_dataBlocked
  have m_streamBlocked := th_streamBlocked
  have m_streamsBlocked := tm_streamsBlocked
  have m_newId := tm_newId
  have m_retireId := tm_retireId
  have m_challenge := tm_challenge
  have m_response := tm_response
  have m_close := tm_close
  have m_appClose := tm_appClose
  have m_done := tm_done
  have m_datagram := tm_datagram
  go_enter Try.func36, Try.ntmps36
  go_wp2
  go_ret
  exact ⟨rfl, rfl⟩
set_option maxRecDepth 20000 in
set_option maxHeartbeats 1000000 in
theorem dl_streamBlocked (v : Value) (w : World) : Calls Try.prog 37 #[.iface 104 v] w fun e w' => e = .returned (.tuple #[.int .i64 0, .int .i64 0]) ∧ w' = w := by
  have m_padding := tm_padding
  have m_ping := tm_ping
  have m_ack := tm_ack
  have m_reset := tm_reset
  have m_stop := tm_stop
  have m_crypto := tm_crypto
  have m_newToken := tm_newToken
  have m_stream := tm_stream
  have m_maxData := tm_maxData
  have m_maxStreamData := tm_maxStreamData
  have m_maxStreams := tm_maxStreams
  have m_dataBlocked := tm_dataBlocked
  have m_streamBlocked := th_streamBlocked
  have m_streamsBlocked := tm_streamsBlocked
  have m_newId := tm_newId
  have m_retireId := tm_retireId
  have m_challenge := tm_challenge
  have m_response := tm_response
  have m_close := tm_close
  have m_appClose := tm_appClose
  have m_done := tm_done
  have m_datagram := tm_datagram
  go_enter Try.func37, Try.ntmps37
  go_wp2
  refine bodyPost_ret (results_tmp2 rfl _ _ _) rfl ?_
  exact ⟨rfl, rfl⟩
set_option maxRecDepth 20000 in
set_option maxHeartbeats 1000000 in
theorem kf_streamsBlocked (v : Value) (w : World) : Calls Try.prog 36 #[.iface 105 v] w fun e w' => e = .returned (.int .i64 3) ∧ w' = w := by
  have m_padding := tm_padding
  have m_ping := tm_ping
  have m_ack := tm_ack
  have m_reset := tm_reset
  have m_stop := tm_stop
  have m_crypto := tm_crypto
  have m_newToken := tm_newToken
  have m_stream := tm_stream
  have m_maxData := tm_maxData
  have m_maxStreamData := tm_maxStreamData
  have m_maxStreams := tm_maxStreams
  have m_dataBlocked := tm_dataBlocked
  have m_streamBlocked := tm_streamBlocked
  have m_streamsBlocked := th_streamsBlocked
  have m_newId := tm_newId
  have m_retireId := tm_retireId
  have m_challenge := tm_challenge
  have m_response := tm_response
  have m_close := tm_close
  have m_appClose := tm_appClose
  have m_done := tm_done
  have m_datagram := tm_datagram
  go_enter Try.func36, Try.ntmps36
  go_wp2
  go_ret
  exact ⟨rfl, rfl⟩
set_option maxRecDepth 20000 in
set_option maxHeartbeats 1000000 in
theorem dl_streamsBlocked (v : Value) (w : World) : Calls Try.prog 37 #[.iface 105 v] w fun e w' => e = .returned (.tuple #[.int .i64 0, .int .i64 0]) ∧ w' = w := by
  have m_padding := tm_padding
  have m_ping := tm_ping
  have m_ack := tm_ack
  have m_reset := tm_reset
  have m_stop := tm_stop
  have m_crypto := tm_crypto
  have m_newToken := tm_newToken
  have m_stream := tm_stream
  have m_maxData := tm_maxData
  have m_maxStreamData := tm_maxStreamData
  have m_maxStreams := tm_maxStreams
  have m_dataBlocked := tm_dataBlocked
  have m_streamBlocked := tm_streamBlocked
  have m_streamsBlocked := th_streamsBlocked
  have m_newId := tm_newId
  have m_retireId := tm_retireId
  have m_challenge := tm_challenge
  have m_response := tm_response
  have m_close := tm_close
  have m_appClose := tm_appClose
  have m_done := tm_done
  have m_datagram := tm_datagram
  go_enter Try.func37, Try.ntmps37
  go_wp2
  refine bodyPost_ret (results_tmp2 rfl _ _ _) rfl ?_
  exact ⟨rfl, rfl⟩
set_option maxRecDepth 20000 in
set_option maxHeartbeats 1000000 in
theorem kf_newId (v : Value) (w : World) : Calls Try.prog 36 #[.iface 106 v] w fun e w' => e = .returned (.int .i64 51) ∧ w' = w := by
  have m_padding := tm_padding
  have m_ping := tm_ping
  have m_ack := tm_ack
  have m_reset := tm_reset
  have m_stop := tm_stop
  have m_crypto := tm_crypto
  have m_newToken := tm_newToken
  have m_stream := tm_stream
  have m_maxData := tm_maxData
  have m_maxStreamData := tm_maxStreamData
  have m_maxStreams := tm_maxStreams
  have m_dataBlocked := tm_dataBlocked
  have m_streamBlocked := tm_streamBlocked
  have m_streamsBlocked := tm_streamsBlocked
  have m_newId := th_newId
  have m_retireId := tm_retireId
  have m_challenge := tm_challenge
  have m_response := tm_response
  have m_close := tm_close
  have m_appClose := tm_appClose
  have m_done := tm_done
  have m_datagram := tm_datagram
  go_enter Try.func36, Try.ntmps36
  go_wp2
  go_ret
  exact ⟨rfl, rfl⟩
set_option maxRecDepth 20000 in
set_option maxHeartbeats 1000000 in
theorem dl_newId (v : Value) (w : World) : Calls Try.prog 37 #[.iface 106 v] w fun e w' => e = .returned (.tuple #[.int .i64 1, .int .i64 8]) ∧ w' = w := by
  have m_padding := tm_padding
  have m_ping := tm_ping
  have m_ack := tm_ack
  have m_reset := tm_reset
  have m_stop := tm_stop
  have m_crypto := tm_crypto
  have m_newToken := tm_newToken
  have m_stream := tm_stream
  have m_maxData := tm_maxData
  have m_maxStreamData := tm_maxStreamData
  have m_maxStreams := tm_maxStreams
  have m_dataBlocked := tm_dataBlocked
  have m_streamBlocked := tm_streamBlocked
  have m_streamsBlocked := tm_streamsBlocked
  have m_newId := th_newId
  have m_retireId := tm_retireId
  have m_challenge := tm_challenge
  have m_response := tm_response
  have m_close := tm_close
  have m_appClose := tm_appClose
  have m_done := tm_done
  have m_datagram := tm_datagram
  go_enter Try.func37, Try.ntmps37
  go_wp2
  refine bodyPost_ret (results_tmp2 rfl _ _ _) rfl ?_
  exact ⟨rfl, rfl⟩
set_option maxRecDepth 20000 in
set_option maxHeartbeats 1000000 in
theorem kf_retireId (v : Value) (w : World) : Calls Try.prog 36 #[.iface 107 v] w fun e w' => e = .returned (.int .i64 1) ∧ w' = w := by
  have m_padding := tm_padding
  have m_ping := tm_ping
  have m_ack := tm_ack
  have m_reset := tm_reset
  have m_stop := tm_stop
  have m_crypto := tm_crypto
  have m_newToken := tm_newToken
  have m_stream := tm_stream
  have m_maxData := tm_maxData
  have m_maxStreamData := tm_maxStreamData
  have m_maxStreams := tm_maxStreams
  have m_dataBlocked := tm_dataBlocked
  have m_streamBlocked := tm_streamBlocked
  have m_streamsBlocked := tm_streamsBlocked
  have m_newId := tm_newId
  have m_retireId := th_retireId
  have m_challenge := tm_challenge
  have m_response := tm_response
  have m_close := tm_close
  have m_appClose := tm_appClose
  have m_done := tm_done
  have m_datagram := tm_datagram
  go_enter Try.func36, Try.ntmps36
  go_wp2
  go_ret
  exact ⟨rfl, rfl⟩
set_option maxRecDepth 20000 in
set_option maxHeartbeats 1000000 in
theorem dl_retireId (v : Value) (w : World) : Calls Try.prog 37 #[.iface 107 v] w fun e w' => e = .returned (.tuple #[.int .i64 0, .int .i64 0]) ∧ w' = w := by
  have m_padding := tm_padding
  have m_ping := tm_ping
  have m_ack := tm_ack
  have m_reset := tm_reset
  have m_stop := tm_stop
  have m_crypto := tm_crypto
  have m_newToken := tm_newToken
  have m_stream := tm_stream
  have m_maxData := tm_maxData
  have m_maxStreamData := tm_maxStreamData
  have m_maxStreams := tm_maxStreams
  have m_dataBlocked := tm_dataBlocked
  have m_streamBlocked := tm_streamBlocked
  have m_streamsBlocked := tm_streamsBlocked
  have m_newId := tm_newId
  have m_retireId := th_retireId
  have m_challenge := tm_challenge
  have m_response := tm_response
  have m_close := tm_close
  have m_appClose := tm_appClose
  have m_done := tm_done
  have m_datagram := tm_datagram
  go_enter Try.func37, Try.ntmps37
  go_wp2
  refine bodyPost_ret (results_tmp2 rfl _ _ _) rfl ?_
  exact ⟨rfl, rfl⟩
set_option maxRecDepth 20000 in
set_option maxHeartbeats 1000000 in
theorem kf_challenge (v : Value) (w : World) : Calls Try.prog 36 #[.iface 112 v] w fun e w' => e = .returned (.int .i64 16) ∧ w' = w := by
  have m_padding := tm_padding
  have m_ping := tm_ping
  have m_ack := tm_ack
  have m_reset := tm_reset
  have m_stop := tm_stop
  have m_crypto := tm_crypto
  have m_newToken := tm_newToken
  have m_stream := tm_stream
  have m_maxData := tm_maxData
  have m_maxStreamData := tm_maxStreamData
  have m_maxStreams := tm_maxStreams
  have m_dataBlocked := tm_dataBlocked
  have m_streamBlocked := tm_streamBlocked
  have m_streamsBlocked := tm_streamsBlocked
  have m_newId := tm_newId
  have m_retireId := tm_retireId
  have m_challenge := th_challenge
  have m_response := tm_response
  have m_close := tm_close
  have m_appClose := tm_appClose
  have m_done := tm_done
  have m_datagram := tm_datagram
  go_enter Try.func36, Try.ntmps36
  go_wp2
  go_ret
  exact ⟨rfl, rfl⟩
set_option maxRecDepth 20000 in
set_option maxHeartbeats 1000000 in
theorem dl_challenge (v : Value) (w : World) : Calls Try.prog 37 #[.iface 112 v] w fun e w' => e = .returned (.tuple #[.int .i64 8, .int .i64 8]) ∧ w' = w := by
  have m_padding := tm_padding
  have m_ping := tm_ping
  have m_ack := tm_ack
  have m_reset := tm_reset
  have m_stop := tm_stop
  have m_crypto := tm_crypto
  have m_newToken := tm_newToken
  have m_stream := tm_stream
  have m_maxData := tm_maxData
  have m_maxStreamData := tm_maxStreamData
  have m_maxStreams := tm_maxStreams
  have m_dataBlocked := tm_dataBlocked
  have m_streamBlocked := tm_streamBlocked
  have m_streamsBlocked := tm_streamsBlocked
  have m_newId := tm_newId
  have m_retireId := tm_retireId
  have m_challenge := th_challenge
  have m_response := tm_response
  have m_close := tm_close
  have m_appClose := tm_appClose
  have m_done := tm_done
  have m_datagram := tm_datagram
  go_enter Try.func37, Try.ntmps37
  go_wp2
  refine bodyPost_ret (results_tmp2 rfl _ _ _) rfl ?_
  exact ⟨rfl, rfl⟩
set_option maxRecDepth 20000 in
set_option maxHeartbeats 1000000 in
theorem kf_response (v : Value) (w : World) : Calls Try.prog 36 #[.iface 113 v] w fun e w' => e = .returned (.int .i64 16) ∧ w' = w := by
  have m_padding := tm_padding
  have m_ping := tm_ping
  have m_ack := tm_ack
  have m_reset := tm_reset
  have m_stop := tm_stop
  have m_crypto := tm_crypto
  have m_newToken := tm_newToken
  have m_stream := tm_stream
  have m_maxData := tm_maxData
  have m_maxStreamData := tm_maxStreamData
  have m_maxStreams := tm_maxStreams
  have m_dataBlocked := tm_dataBlocked
  have m_streamBlocked := tm_streamBlocked
  have m_streamsBlocked := tm_streamsBlocked
  have m_newId := tm_newId
  have m_retireId := tm_retireId
  have m_challenge := tm_challenge
  have m_response := th_response
  have m_close := tm_close
  have m_appClose := tm_appClose
  have m_done := tm_done
  have m_datagram := tm_datagram
  go_enter Try.func36, Try.ntmps36
  go_wp2
  go_ret
  exact ⟨rfl, rfl⟩
set_option maxRecDepth 20000 in
set_option maxHeartbeats 1000000 in
theorem dl_response (v : Value) (w : World) : Calls Try.prog 37 #[.iface 113 v] w fun e w' => e = .returned (.tuple #[.int .i64 8, .int .i64 8]) ∧ w' = w := by
  have m_padding := tm_padding
  have m_ping := tm_ping
  have m_ack := tm_ack
  have m_reset := tm_reset
  have m_stop := tm_stop
  have m_crypto := tm_crypto
  have m_newToken := tm_newToken
  have m_stream := tm_stream
  have m_maxData := tm_maxData
  have m_maxStreamData := tm_maxStreamData
  have m_maxStreams := tm_maxStreams
  have m_dataBlocked := tm_dataBlocked
  have m_streamBlocked := tm_streamBlocked
  have m_streamsBlocked := tm_streamsBlocked
  have m_newId := tm_newId
  have m_retireId := tm_retireId
  have m_challenge := tm_challenge
  have m_response := th_response
  have m_close := tm_close
  have m_appClose := tm_appClose
  have m_done := tm_done
  have m_datagram := tm_datagram
  go_enter Try.func37, Try.ntmps37
  go_wp2
  refine bodyPost_ret (results_tmp2 rfl _ _ _) rfl ?_
  exact ⟨rfl, rfl⟩
set_option maxRecDepth 20000 in
set_option maxHeartbeats 1000000 in
theorem kf_close (v : Value) (w : World) : Calls Try.prog 36 #[.iface 114 v] w fun e w' => e = .returned (.int .i64 19) ∧ w' = w := by
  have m_padding := tm_padding
  have m_ping := tm_ping
  have m_ack := tm_ack
  have m_reset := tm_reset
  have m_stop := tm_stop
  have m_crypto := tm_crypto
  have m_newToken := tm_newToken
  have m_stream := tm_stream
  have m_maxData := tm_maxData
  have m_maxStreamData := tm_maxStreamData
  have m_maxStreams := tm_maxStreams
  have m_dataBlocked := tm_dataBlocked
  have m_streamBlocked := tm_streamBlocked
  have m_streamsBlocked := tm_streamsBlocked
  have m_newId := tm_newId
  have m_retireId := tm_retireId
  have m_challenge := tm_challenge
  have m_response := tm_response
  have m_close := th_close
  have m_appClose := tm_appClose
  have m_done := tm_done
  have m_datagram := tm_datagram
  go_enter Try.func36, Try.ntmps36
  go_wp2
  go_ret
  exact ⟨rfl, rfl⟩
set_option maxRecDepth 20000 in
set_option maxHeartbeats 1000000 in
theorem dl_close (v : Value) (w : World) : Calls Try.prog 37 #[.iface 114 v] w fun e w' => e = .returned (.tuple #[.int .i64 0, .int .i64 200]) ∧ w' = w := by
  have m_padding := tm_padding
  have m_ping := tm_ping
  have m_ack := tm_ack
  have m_reset := tm_reset
  have m_stop := tm_stop
  have m_crypto := tm_crypto
  have m_newToken := tm_newToken
  have m_stream := tm_stream
  have m_maxData := tm_maxData
  have m_maxStreamData := tm_maxStreamData
  have m_maxStreams := tm_maxStreams
  have m_dataBlocked := tm_dataBlocked
  have m_streamBlocked := tm_streamBlocked
  have m_streamsBlocked := tm_streamsBlocked
  have m_newId := tm_newId
  have m_retireId := tm_retireId
  have m_challenge := tm_challenge
  have m_response := tm_response
  have m_close := th_close
  have m_appClose := tm_appClose
  have m_done := tm_done
  have m_datagram := tm_datagram
  go_enter Try.func37, Try.ntmps37
  go_wp2
  refine bodyPost_ret (results_tmp2 rfl _ _ _) rfl ?_
  exact ⟨rfl, rfl⟩
set_option maxRecDepth 20000 in
set_option maxHeartbeats 1000000 in
theorem kf_appClose (v : Value) (w : World) : Calls Try.prog 36 #[.iface 115 v] w fun e w' => e = .returned (.int .i64 17) ∧ w' = w := by
  have m_padding := tm_padding
  have m_ping := tm_ping
  have m_ack := tm_ack
  have m_reset := tm_reset
  have m_stop := tm_stop
  have m_crypto := tm_crypto
  have m_newToken := tm_newToken
  have m_stream := tm_stream
  have m_maxData := tm_maxData
  have m_maxStreamData := tm_maxStreamData
  have m_maxStreams := tm_maxStreams
  have m_dataBlocked := tm_dataBlocked
  have m_streamBlocked := tm_streamBlocked
  have m_streamsBlocked := tm_streamsBlocked
  have m_newId := tm_newId
  have m_retireId := tm_retireId
  have m_challenge := tm_challenge
  have m_response := tm_response
  have m_close := tm_close
  have m_appClose := th_appClose
  have m_done := tm_done
  have m_datagram := tm_datagram
  go_enter Try.func36, Try.ntmps36
  go_wp2
  go_ret
  exact ⟨rfl, rfl⟩
set_option maxRecDepth 20000 in
set_option maxHeartbeats 1000000 in
theorem dl_appClose (v : Value) (w : World) : Calls Try.prog 37 #[.iface 115 v] w fun e w' => e = .returned (.tuple #[.int .i64 0, .int .i64 200]) ∧ w' = w := by
  have m_padding := tm_padding
  have m_ping := tm_ping
  have m_ack := tm_ack
  have m_reset := tm_reset
  have m_stop := tm_stop
  have m_crypto := tm_crypto
  have m_newToken := tm_newToken
  have m_stream := tm_stream
  have m_maxData := tm_maxData
  have m_maxStreamData := tm_maxStreamData
  have m_maxStreams := tm_maxStreams
  have m_dataBlocked := tm_dataBlocked
  have m_streamBlocked := tm_streamBlocked
  have m_streamsBlocked := tm_streamsBlocked
  have m_newId := tm_newId
  have m_retireId := tm_retireId
  have m_challenge := tm_challenge
  have m_response := tm_response
  have m_close := tm_close
  have m_appClose := th_appClose
  have m_done := tm_done
  have m_datagram := tm_datagram
  go_enter Try.func37, Try.ntmps37
  go_wp2
  refine bodyPost_ret (results_tmp2 rfl _ _ _) rfl ?_
  exact ⟨rfl, rfl⟩
set_option maxRecDepth 20000 in
set_option maxHeartbeats 1000000 in
theorem kf_done (v : Value) (w : World) : Calls Try.prog 36 #[.iface 116 v] w fun e w' => e = .returned (.int .i64 0) ∧ w' = w := by
  have m_padding := tm_padding
  have m_ping := tm_ping
  have m_ack := tm_ack
  have m_reset := tm_reset
  have m_stop := tm_stop
  have m_crypto := tm_crypto
  have m_newToken := tm_newToken
  have m_stream := tm_stream
  have m_maxData := tm_maxData
  have m_maxStreamData := tm_maxStreamData
  have m_maxStreams := tm_maxStreams
  have m_dataBlocked := tm_dataBlocked
  have m_streamBlocked := tm_streamBlocked
  have m_streamsBlocked := tm_streamsBlocked
  have m_newId := tm_newId
  have m_retireId := tm_retireId
  have m_challenge := tm_challenge
  have m_response := tm_response
  have m_close := tm_close
  have m_appClose := tm_appClose
  have m_done := th_done
  have m_datagram := tm_datagram
  go_enter Try.func36, Try.ntmps36
  go_wp2
  go_ret
  exact ⟨rfl, rfl⟩
set_option maxRecDepth 20000 in
set_option maxHeartbeats 1000000 in
theorem dl_done (v : Value) (w : World) : Calls Try.prog 37 #[.iface 116 v] w fun e w' => e = .returned (.tuple #[.int .i64 0, .int .i64 0]) ∧ w' = w := by
  have m_padding := tm_padding
  have m_ping := tm_ping
  have m_ack := tm_ack
  have m_reset := tm_reset
  have m_stop := tm_stop
  have m_crypto := tm_crypto
  have m_newToken := tm_newToken
  have m_stream := tm_stream
  have m_maxData := tm_maxData
  have m_maxStreamData := tm_maxStreamData
  have m_maxStreams := tm_maxStreams
  have m_dataBlocked := tm_dataBlocked
  have m_streamBlocked := tm_streamBlocked
  have m_streamsBlocked := tm_streamsBlocked
  have m_newId := tm_newId
  have m_retireId := tm_retireId
  have m_challenge := tm_challenge
  have m_response := tm_response
  have m_close := tm_close
  have m_appClose := tm_appClose
  have m_done := th_done
  have m_datagram := tm_datagram
  go_enter Try.func37, Try.ntmps37
  go_wp2
  refine bodyPost_ret (results_tmp2 rfl _ _ _) rfl ?_
  exact ⟨rfl, rfl⟩
set_option maxRecDepth 20000 in
set_option maxHeartbeats 1000000 in
theorem kf_datagram (v : Value) (w : World) : Calls Try.prog 36 #[.iface 117 v] w fun e w' => e = .returned (.int .i64 16) ∧ w' = w := by
  have m_padding := tm_padding
  have m_ping := tm_ping
  have m_ack := tm_ack
  have m_reset := tm_reset
  have m_stop := tm_stop
  have m_crypto := tm_crypto
  have m_newToken := tm_newToken
  have m_stream := tm_stream
  have m_maxData := tm_maxData
  have m_maxStreamData := tm_maxStreamData
  have m_maxStreams := tm_maxStreams
  have m_dataBlocked := tm_dataBlocked
  have m_streamBlocked := tm_streamBlocked
  have m_streamsBlocked := tm_streamsBlocked
  have m_newId := tm_newId
  have m_retireId := tm_retireId
  have m_challenge := tm_challenge
  have m_response := tm_response
  have m_close := tm_close
  have m_appClose := tm_appClose
  have m_done := tm_done
  have m_datagram := th_datagram
  go_enter Try.func36, Try.ntmps36
  go_wp2
  go_ret
  exact ⟨rfl, rfl⟩
set_option maxRecDepth 20000 in
set_option maxHeartbeats 1000000 in
theorem dl_datagram (v : Value) (w : World) : Calls Try.prog 37 #[.iface 117 v] w fun e w' => e = .returned (.tuple #[.int .i64 0, .int .i64 1500]) ∧ w' = w := by
  have m_padding := tm_padding
  have m_ping := tm_ping
  have m_ack := tm_ack
  have m_reset := tm_reset
  have m_stop := tm_stop
  have m_crypto := tm_crypto
  have m_newToken := tm_newToken
  have m_stream := tm_stream
  have m_maxData := tm_maxData
  have m_maxStreamData := tm_maxStreamData
  have m_maxStreams := tm_maxStreams
  have m_dataBlocked := tm_dataBlocked
  have m_streamBlocked := tm_streamBlocked
  have m_streamsBlocked := tm_streamsBlocked
  have m_newId := tm_newId
  have m_retireId := tm_retireId
  have m_challenge := tm_challenge
  have m_response := tm_response
  have m_close := tm_close
  have m_appClose := tm_appClose
  have m_done := tm_done
  have m_datagram := th_datagram
  go_enter Try.func37, Try.ntmps37
  go_wp2
  refine bodyPost_ret (results_tmp2 rfl _ _ _) rfl ?_
  exact ⟨rfl, rfl⟩
end Go.Proofs.Ytlbiaiohjohgiaa
