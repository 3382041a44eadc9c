import Derived.Test.YtaodcahkkeobdaaBodyA
namespace Go.Proofs.Ytaodcahkkeobdaa
open Go.RowKit
set_option linter.unusedVariables false

set_option maxRecDepth 20000 in
set_option maxHeartbeats 1000000 in
theorem body_maxData (a b c : Int) (fin : Bool) (ad at' ar : Option Addr) (nd pd nt pt nr pr : Nat) (w : World) :
    Calls Try.prog 44 #[.agg #[.int .i64 16, .int .i64 a, .int .i64 b, .int .i64 c, .bool fin, .slice ad nd pd, .slice at' nt pt, .slice ar nr pr]] w fun e w' => e = .returned (.iface 111 (.agg #[.int .i64 16, .int .i64 a, .int .i64 b, .int .i64 c, .bool fin, .slice ad nd pd, .slice at' nt pt, .slice ar nr pr, .int .i64 16, .int .i64 1])) ∧ Below w.heap.size w w' := by
  have hmf := hmf0
  have hfd := fld_sp
  go_enter Try.func44, Try.ntmps44
  go_wp2
  refine bodyPost_ret (v := .agg #[.int .i64 16, .int .i64 a, .int .i64 b, .int .i64 c, .bool fin, .slice ad nd pd, .slice at' nt pt, .slice ar nr pr, .int .i64 16, .int .i64 1]) ?_ rfl ?_
  · refine results_cell_row (t := 86) rfl _ _ (w.heap.size + 2) _ (fr := (0, 0)) _ rfl ?_ Try.underlying86 rfl infoSP
    first | exact hp3 _ _ _ _ | exact hp4 _ _ _ _ _ | exact hp43 _ _ _ _ _
  go_wp2
  go_ret
  refine ⟨rfl, ?_⟩
  first | exact al2 _ _ _ | exact al3 _ _ _ _ | exact al4 _ _ _ _ _
set_option maxRecDepth 20000 in
set_option maxHeartbeats 1000000 in
theorem body_maxStreamData (a b c : Int) (fin : Bool) (ad at' ar : Option Addr) (nd pd nt pt nr pr : Nat) (w : World) :
    Calls Try.prog 44 #[.agg #[.int .i64 17, .int .i64 a, .int .i64 b, .int .i64 c, .bool fin, .slice ad nd pd, .slice at' nt pt, .slice ar nr pr]] w fun e w' => e = .returned (.iface 112 (.agg #[.int .i64 17, .int .i64 a, .int .i64 b, .int .i64 c, .bool fin, .slice ad nd pd, .slice at' nt pt, .slice ar nr pr, .int .i64 17, .int .i64 2])) ∧ Below w.heap.size w w' := by
  have hmf := hmf0
  have hfd := fld_sp
  go_enter Try.func44, Try.ntmps44
  go_wp2
  refine bodyPost_ret (v := .agg #[.int .i64 17, .int .i64 a, .int .i64 b, .int .i64 c, .bool fin, .slice ad nd pd, .slice at' nt pt, .slice ar nr pr, .int .i64 17, .int .i64 2]) ?_ rfl ?_
  · refine results_cell_row (t := 86) rfl _ _ (w.heap.size + 2) _ (fr := (0, 0)) _ rfl ?_ Try.underlying86 rfl infoSP
    first | exact hp3 _ _ _ _ | exact hp4 _ _ _ _ _ | exact hp43 _ _ _ _ _
  go_wp2
  go_ret
  refine ⟨rfl, ?_⟩
  first | exact al2 _ _ _ | exact al3 _ _ _ _ | exact al4 _ _ _ _ _
set_option maxRecDepth 20000 in
set_option maxHeartbeats 1000000 in
theorem body_maxStreams (a b c : Int) (fin : Bool) (ad at' ar : Option Addr) (nd pd nt pt nr pr : Nat) (w : World) (hb0 : 0 ≤ b) (hb1 : b ≤ 4611686018427387903) :
    Calls Try.prog 44 #[.agg #[.int .i64 18, .int .i64 a, .int .i64 b, .int .i64 c, .bool fin, .slice ad nd pd, .slice at' nt pt, .slice ar nr pr]] w fun e w' => e = .returned (.iface 114 (.agg #[.int .i64 18, .int .i64 a, .int .i64 b, .int .i64 c, .bool fin, .slice ad nd pd, .slice at' nt pt, .slice ar nr pr, .int .i64 (18 + b), .int .i64 1])) ∧ Below w.heap.size w w' := by
  have hmf := hmf0
  have hfd := fld_sp
  have hw : IntKind.i64.wrap (18 + b) = 18 + b := i64_sum (by omega) (by omega)
  go_enter Try.func44, Try.ntmps44
  go_wp2
  refine bodyPost_ret (v := .agg #[.int .i64 18, .int .i64 a, .int .i64 b, .int .i64 c, .bool fin, .slice ad nd pd, .slice at' nt pt, .slice ar nr pr, .int .i64 (18 + b), .int .i64 1]) ?_ rfl ?_
  · refine results_cell_row (t := 86) rfl _ _ (w.heap.size + 3) _ (fr := (0, 0)) _ rfl ?_ Try.underlying86 rfl infoSP
    first | exact hp3 _ _ _ _ | exact hp4 _ _ _ _ _ | exact hp43 _ _ _ _ _
  go_wp2
  go_ret
  refine ⟨rfl, ?_⟩
  first | exact al2 _ _ _ | exact al3 _ _ _ _ | exact al4 _ _ _ _ _
set_option maxRecDepth 20000 in
set_option maxHeartbeats 1000000 in
theorem body_dataBlocked (a b c : Int) (fin : Bool) (ad at' ar : Option Addr) (nd pd nt pt nr pr : Nat) (w : World) :
    Calls Try.prog 44 #[.agg #[.int .i64 20, .int .i64 a, .int .i64 b, .int .i64 c, .bool fin, .slice ad nd pd, .slice at' nt pt, .slice ar nr pr]] w fun e w' => e = .returned (.iface 115 (.agg #[.int .i64 20, .int .i64 a, .int .i64 b, .int .i64 c, .bool fin, .slice ad nd pd, .slice at' nt pt, .slice ar nr pr, .int .i64 20, .int .i64 1])) ∧ Below w.heap.size w w' := by
  have hmf := hmf0
  have hfd := fld_sp
  go_enter Try.func44, Try.ntmps44
  go_wp2
  refine bodyPost_ret (v := .agg #[.int .i64 20, .int .i64 a, .int .i64 b, .int .i64 c, .bool fin, .slice ad nd pd, .slice at' nt pt, .slice ar nr pr, .int .i64 20, .int .i64 1]) ?_ rfl ?_
  · refine results_cell_row (t := 86) rfl _ _ (w.heap.size + 2) _ (fr := (0, 0)) _ rfl ?_ Try.underlying86 rfl infoSP
    first | exact hp3 _ _ _ _ | exact hp4 _ _ _ _ _ | exact hp43 _ _ _ _ _
  go_wp2
  go_ret
  refine ⟨rfl, ?_⟩
  first | exact al2 _ _ _ | exact al3 _ _ _ _ | exact al4 _ _ _ _ _
set_option maxRecDepth 20000 in
set_option maxHeartbeats 1000000 in
theorem body_streamBlocked (a b c : Int) (fin : Bool) (ad at' ar : Option Addr) (nd pd nt pt nr pr : Nat) (w : World) :
    Calls Try.prog 44 #[.agg #[.int .i64 21, .int .i64 a, .int .i64 b, .int .i64 c, .bool fin, .slice ad nd pd, .slice at' nt pt, .slice ar nr pr]] w fun e w' => e = .returned (.iface 116 (.agg #[.int .i64 21, .int .i64 a, .int .i64 b, .int .i64 c, .bool fin, .slice ad nd pd, .slice at' nt pt, .slice ar nr pr, .int .i64 21, .int .i64 2])) ∧ Below w.heap.size w w' := by
  have hmf := hmf0
  have hfd := fld_sp
  go_enter Try.func44, Try.ntmps44
  go_wp2
  refine bodyPost_ret (v := .agg #[.int .i64 21, .int .i64 a, .int .i64 b, .int .i64 c, .bool fin, .slice ad nd pd, .slice at' nt pt, .slice ar nr pr, .int .i64 21, .int .i64 2]) ?_ rfl ?_
  · refine results_cell_row (t := 86) rfl _ _ (w.heap.size + 2) _ (fr := (0, 0)) _ rfl ?_ Try.underlying86 rfl infoSP
    first | exact hp3 _ _ _ _ | exact hp4 _ _ _ _ _ | exact hp43 _ _ _ _ _
  go_wp2
  go_ret
  refine ⟨rfl, ?_⟩
  first | exact al2 _ _ _ | exact al3 _ _ _ _ | exact al4 _ _ _ _ _
set_option maxRecDepth 20000 in
set_option maxHeartbeats 1000000 in
theorem body_streamsBlocked (a b c : Int) (fin : Bool) (ad at' ar : Option Addr) (nd pd nt pt nr pr : Nat) (w : World) (hb0 : 0 ≤ b) (hb1 : b ≤ 4611686018427387903) :
    Calls Try.prog 44 #[.agg #[.int .i64 22, .int .i64 a, .int .i64 b, .int .i64 c, .bool fin, .slice ad nd pd, .slice at' nt pt, .slice ar nr pr]] w fun e w' => e = .returned (.iface 117 (.agg #[.int .i64 22, .int .i64 a, .int .i64 b, .int .i64 c, .bool fin, .slice ad nd pd, .slice at' nt pt, .slice ar nr pr, .int .i64 (22 + b), .int .i64 1])) ∧ Below w.heap.size w w' := by
  have hmf := hmf0
  have hfd := fld_sp
  have hw : IntKind.i64.wrap (22 + b) = 22 + b := i64_sum (by omega) (by omega)
  go_enter Try.func44, Try.ntmps44
  go_wp2
  refine bodyPost_ret (v := .agg #[.int .i64 22, .int .i64 a, .int .i64 b, .int .i64 c, .bool fin, .slice ad nd pd, .slice at' nt pt, .slice ar nr pr, .int .i64 (22 + b), .int .i64 1]) ?_ rfl ?_
  · refine results_cell_row (t := 86) rfl _ _ (w.heap.size + 3) _ (fr := (0, 0)) _ rfl ?_ Try.underlying86 rfl infoSP
    first | exact hp3 _ _ _ _ | exact hp4 _ _ _ _ _ | exact hp43 _ _ _ _ _
  go_wp2
  go_ret
  refine ⟨rfl, ?_⟩
  first | exact al2 _ _ _ | exact al3 _ _ _ _ | exact al4 _ _ _ _ _
end Go.Proofs.Ytaodcahkkeobdaa
