import Derived.Test.YtaodcahkkeobdaaBodyA
namespace Go.Proofs.Ytaodcahkkeobdaa
open Go.RowKit
set_option linter.unusedVariables false

set_option maxRecDepth 20000 in
set_option maxHeartbeats 1000000 in
theorem body_done (a b c : Int) (fin : Bool) (ad at' ar : Option Addr) (nd pd nt pt nr pr : Nat) (w : World) :
    Calls Try.prog 44 #[.agg #[.int .i64 30, .int .i64 a, .int .i64 b, .int .i64 c, .bool fin, .slice ad nd pd, .slice at' nt pt, .slice ar nr pr]] w fun e w' => e = .returned (.iface 128 (.agg #[.int .i64 30, .int .i64 a, .int .i64 b, .int .i64 c, .bool fin, .slice ad nd pd, .slice at' nt pt, .slice ar nr pr, .int .i64 30, .int .i64 0])) ∧ Below w.heap.size w w' := by
  have hmf := hmf0
  have hfd := fld_sp
  go_enter Try.func44, Try.ntmps44
  go_wp2
  refine bodyPost_ret (v := .agg #[.int .i64 30, .int .i64 a, .int .i64 b, .int .i64 c, .bool fin, .slice ad nd pd, .slice at' nt pt, .slice ar nr pr, .int .i64 30, .int .i64 0]) ?_ rfl ?_
  · refine results_cell_row (t := 86) rfl _ _ (w.heap.size + 2) _ (fr := (0, 0)) _ rfl ?_ Try.underlying86 rfl infoSP
    first | exact hp3 _ _ _ _ | exact hp4 _ _ _ _ _ | exact hp43 _ _ _ _ _
  go_wp2
  go_ret
  refine ⟨rfl, ?_⟩
  first | exact al2 _ _ _ | exact al3 _ _ _ _ | exact al4 _ _ _ _ _
set_option maxRecDepth 20000 in
set_option maxHeartbeats 1000000 in
theorem body_datagram (a b c : Int) (fin : Bool) (ad at' ar : Option Addr) (nd pd nt pt nr pr : Nat) (w : World) :
    Calls Try.prog 44 #[.agg #[.int .i64 48, .int .i64 a, .int .i64 b, .int .i64 c, .bool fin, .slice ad nd pd, .slice at' nt pt, .slice ar nr pr]] w fun e w' => e = .returned (.iface 129 (.agg #[.int .i64 48, .int .i64 a, .int .i64 b, .int .i64 c, .bool fin, .slice ad nd pd, .slice at' nt pt, .slice ar nr pr, .int .i64 49, .int .i64 0])) ∧ Below w.heap.size w w' := by
  have hmf := hmf0
  have hfd := fld_sp
  go_enter Try.func44, Try.ntmps44
  go_wp2
  go_ret
  refine ⟨rfl, ?_⟩
  first | exact al2 _ _ _ | exact al3 _ _ _ _ | exact al4 _ _ _ _ _
set_option maxRecDepth 20000 in
set_option maxHeartbeats 1000000 in
theorem body_stream00 (a b c : Int) (fin : Bool) (ad at' ar : Option Addr) (nd pd nt pt nr pr : Nat) (w : World) :
    Calls Try.prog 44 #[.agg #[.int .i64 8, .int .i64 a, .int .i64 0, .int .i64 c, .bool false, .slice ad nd pd, .slice at' nt pt, .slice ar nr pr]] w fun e w' => e = .returned (.iface 109 (.agg #[.int .i64 8, .int .i64 a, .int .i64 0, .int .i64 c, .bool false, .slice ad nd pd, .slice at' nt pt, .slice ar nr pr, .int .i64 10, .int .i64 1])) ∧ Below w.heap.size w w' := by
  have hmf := hmf0
  have hfd := fld_sp
  go_enter Try.func44, Try.ntmps44
  go_wp2
  refine bodyPost_ret (v := .agg #[.int .i64 8, .int .i64 a, .int .i64 0, .int .i64 c, .bool false, .slice ad nd pd, .slice at' nt pt, .slice ar nr pr, .int .i64 10, .int .i64 1]) ?_ rfl ?_
  · refine results_cell_row (t := 109) rfl _ _ (w.heap.size + 3) _ (fr := (0, 0)) _ rfl ?_ Try.underlying109 rfl infoSF
    first | exact hp3 _ _ _ _ | exact hp4 _ _ _ _ _ | exact hp43 _ _ _ _ _
  go_wp2
  go_ret
  refine ⟨rfl, ?_⟩
  first | exact al2 _ _ _ | exact al3 _ _ _ _ | exact al4 _ _ _ _ _
set_option maxRecDepth 20000 in
set_option maxHeartbeats 1000000 in
theorem body_stream01 (a b c : Int) (fin : Bool) (ad at' ar : Option Addr) (nd pd nt pt nr pr : Nat) (w : World) :
    Calls Try.prog 44 #[.agg #[.int .i64 8, .int .i64 a, .int .i64 0, .int .i64 c, .bool true, .slice ad nd pd, .slice at' nt pt, .slice ar nr pr]] w fun e w' => e = .returned (.iface 109 (.agg #[.int .i64 8, .int .i64 a, .int .i64 0, .int .i64 c, .bool true, .slice ad nd pd, .slice at' nt pt, .slice ar nr pr, .int .i64 11, .int .i64 1])) ∧ Below w.heap.size w w' := by
  have hmf := hmf0
  have hfd := fld_sp
  go_enter Try.func44, Try.ntmps44
  go_wp2
  refine bodyPost_ret (v := .agg #[.int .i64 8, .int .i64 a, .int .i64 0, .int .i64 c, .bool true, .slice ad nd pd, .slice at' nt pt, .slice ar nr pr, .int .i64 11, .int .i64 1]) ?_ rfl ?_
  · refine results_cell_row (t := 109) rfl _ _ (w.heap.size + 3) _ (fr := (0, 0)) _ rfl ?_ Try.underlying109 rfl infoSF
    first | exact hp3 _ _ _ _ | exact hp4 _ _ _ _ _ | exact hp43 _ _ _ _ _
  go_wp2
  go_ret
  refine ⟨rfl, ?_⟩
  first | exact al2 _ _ _ | exact al3 _ _ _ _ | exact al4 _ _ _ _ _
set_option maxRecDepth 20000 in
set_option maxHeartbeats 1000000 in
theorem body_stream10 (a b c : Int) (fin : Bool) (ad at' ar : Option Addr) (nd pd nt pt nr pr : Nat) (w : World) (hb0 : b ≠ 0) :
    Calls Try.prog 44 #[.agg #[.int .i64 8, .int .i64 a, .int .i64 b, .int .i64 c, .bool false, .slice ad nd pd, .slice at' nt pt, .slice ar nr pr]] w fun e w' => e = .returned (.iface 109 (.agg #[.int .i64 8, .int .i64 a, .int .i64 b, .int .i64 c, .bool false, .slice ad nd pd, .slice at' nt pt, .slice ar nr pr, .int .i64 14, .int .i64 2])) ∧ Below w.heap.size w w' := by
  have hmf := hmf0
  have hfd := fld_sp
  have hbn : (b != 0) = true := by simp [hb0]
  go_enter Try.func44, Try.ntmps44
  go_wp2
  refine bodyPost_ret (v := .agg #[.int .i64 8, .int .i64 a, .int .i64 b, .int .i64 c, .bool false, .slice ad nd pd, .slice at' nt pt, .slice ar nr pr, .int .i64 14, .int .i64 2]) ?_ rfl ?_
  · refine results_cell_row (t := 109) rfl _ _ (w.heap.size + 3) _ (fr := (0, 0)) _ rfl ?_ Try.underlying109 rfl infoSF
    first | exact hp3 _ _ _ _ | exact hp4 _ _ _ _ _ | exact hp43 _ _ _ _ _
  go_wp2
  go_ret
  refine ⟨rfl, ?_⟩
  first | exact al2 _ _ _ | exact al3 _ _ _ _ | exact al4 _ _ _ _ _
set_option maxRecDepth 20000 in
set_option maxHeartbeats 1000000 in
theorem body_stream11 (a b c : Int) (fin : Bool) (ad at' ar : Option Addr) (nd pd nt pt nr pr : Nat) (w : World) (hb0 : b ≠ 0) :
    Calls Try.prog 44 #[.agg #[.int .i64 8, .int .i64 a, .int .i64 b, .int .i64 c, .bool true, .slice ad nd pd, .slice at' nt pt, .slice ar nr pr]] w fun e w' => e = .returned (.iface 109 (.agg #[.int .i64 8, .int .i64 a, .int .i64 b, .int .i64 c, .bool true, .slice ad nd pd, .slice at' nt pt, .slice ar nr pr, .int .i64 15, .int .i64 2])) ∧ Below w.heap.size w w' := by
  have hmf := hmf0
  have hfd := fld_sp
  have hbn : (b != 0) = true := by simp [hb0]
  go_enter Try.func44, Try.ntmps44
  go_wp2
  refine bodyPost_ret (v := .agg #[.int .i64 8, .int .i64 a, .int .i64 b, .int .i64 c, .bool true, .slice ad nd pd, .slice at' nt pt, .slice ar nr pr, .int .i64 15, .int .i64 2]) ?_ rfl ?_
  · refine results_cell_row (t := 109) rfl _ _ (w.heap.size + 3) _ (fr := (0, 0)) _ rfl ?_ Try.underlying109 rfl infoSF
    first | exact hp3 _ _ _ _ | exact hp4 _ _ _ _ _ | exact hp43 _ _ _ _ _
  go_wp2
  go_ret
  refine ⟨rfl, ?_⟩
  first | exact al2 _ _ _ | exact al3 _ _ _ _ | exact al4 _ _ _ _ _
end Go.Proofs.Ytaodcahkkeobdaa
