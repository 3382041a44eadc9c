import Derived.Test.YtaodcahkkeobdaaBodyA
namespace Go.Proofs.Ytaodcahkkeobdaa
open Go.RowKit
set_option linter.unusedVariables false

set_option maxRecDepth 20000 in
set_option maxHeartbeats 1000000 in
theorem body_newId (a b c : Int) (fin : Bool) (ad at' ar : Option Addr) (nd pd nt pt nr pr : Nat) (w : World) :
    Calls Try.prog 44 #[.agg #[.int .i64 24, .int .i64 a, .int .i64 b, .int .i64 c, .bool fin, .slice ad nd pd, .slice at' nt pt, .slice ar nr pr]] w fun e w' => e = .returned (.iface 118 (.agg #[.int .i64 24, .int .i64 a, .int .i64 b, .int .i64 c, .bool fin, .slice ad nd pd, .slice at' nt pt, .slice ar nr pr, .int .i64 24, .int .i64 2])) ∧ Below w.heap.size w w' := by
  have hmf := hmf0
  have hfd := fld_sp
  go_enter Try.func44, Try.ntmps44
  go_wp2
  refine bodyPost_ret (v := .agg #[.int .i64 24, .int .i64 a, .int .i64 b, .int .i64 c, .bool fin, .slice ad nd pd, .slice at' nt pt, .slice ar nr pr, .int .i64 24, .int .i64 2]) ?_ rfl ?_
  · refine results_cell_row (t := 86) rfl _ _ (w.heap.size + 2) _ (fr := (0, 0)) _ rfl ?_ Try.underlying86 rfl infoSP
    first | exact hp3 _ _ _ _ | exact hp4 _ _ _ _ _ | exact hp43 _ _ _ _ _
  go_wp2
  go_ret
  refine ⟨rfl, ?_⟩
  first | exact al2 _ _ _ | exact al3 _ _ _ _ | exact al4 _ _ _ _ _
set_option maxRecDepth 20000 in
set_option maxHeartbeats 1000000 in
theorem body_retireId (a b c : Int) (fin : Bool) (ad at' ar : Option Addr) (nd pd nt pt nr pr : Nat) (w : World) :
    Calls Try.prog 44 #[.agg #[.int .i64 25, .int .i64 a, .int .i64 b, .int .i64 c, .bool fin, .slice ad nd pd, .slice at' nt pt, .slice ar nr pr]] w fun e w' => e = .returned (.iface 119 (.agg #[.int .i64 25, .int .i64 a, .int .i64 b, .int .i64 c, .bool fin, .slice ad nd pd, .slice at' nt pt, .slice ar nr pr, .int .i64 25, .int .i64 1])) ∧ Below w.heap.size w w' := by
  have hmf := hmf0
  have hfd := fld_sp
  go_enter Try.func44, Try.ntmps44
  go_wp2
  refine bodyPost_ret (v := .agg #[.int .i64 25, .int .i64 a, .int .i64 b, .int .i64 c, .bool fin, .slice ad nd pd, .slice at' nt pt, .slice ar nr pr, .int .i64 25, .int .i64 1]) ?_ rfl ?_
  · refine results_cell_row (t := 86) rfl _ _ (w.heap.size + 2) _ (fr := (0, 0)) _ rfl ?_ Try.underlying86 rfl infoSP
    first | exact hp3 _ _ _ _ | exact hp4 _ _ _ _ _ | exact hp43 _ _ _ _ _
  go_wp2
  go_ret
  refine ⟨rfl, ?_⟩
  first | exact al2 _ _ _ | exact al3 _ _ _ _ | exact al4 _ _ _ _ _
set_option maxRecDepth 20000 in
set_option maxHeartbeats 1000000 in
theorem body_challenge (a b c : Int) (fin : Bool) (ad at' ar : Option Addr) (nd pd nt pt nr pr : Nat) (w : World) :
    Calls Try.prog 44 #[.agg #[.int .i64 26, .int .i64 a, .int .i64 b, .int .i64 c, .bool fin, .slice ad nd pd, .slice at' nt pt, .slice ar nr pr]] w fun e w' => e = .returned (.iface 124 (.agg #[.int .i64 26, .int .i64 a, .int .i64 b, .int .i64 c, .bool fin, .slice ad nd pd, .slice at' nt pt, .slice ar nr pr, .int .i64 26, .int .i64 0])) ∧ Below w.heap.size w w' := by
  have hmf := hmf0
  have hfd := fld_sp
  go_enter Try.func44, Try.ntmps44
  go_wp2
  refine bodyPost_ret (v := .agg #[.int .i64 26, .int .i64 a, .int .i64 b, .int .i64 c, .bool fin, .slice ad nd pd, .slice at' nt pt, .slice ar nr pr, .int .i64 26, .int .i64 0]) ?_ rfl ?_
  · refine results_cell_row (t := 86) rfl _ _ (w.heap.size + 2) _ (fr := (0, 0)) _ rfl ?_ Try.underlying86 rfl infoSP
    first | exact hp3 _ _ _ _ | exact hp4 _ _ _ _ _ | exact hp43 _ _ _ _ _
  go_wp2
  go_ret
  refine ⟨rfl, ?_⟩
  first | exact al2 _ _ _ | exact al3 _ _ _ _ | exact al4 _ _ _ _ _
set_option maxRecDepth 20000 in
set_option maxHeartbeats 1000000 in
theorem body_response (a b c : Int) (fin : Bool) (ad at' ar : Option Addr) (nd pd nt pt nr pr : Nat) (w : World) :
    Calls Try.prog 44 #[.agg #[.int .i64 27, .int .i64 a, .int .i64 b, .int .i64 c, .bool fin, .slice ad nd pd, .slice at' nt pt, .slice ar nr pr]] w fun e w' => e = .returned (.iface 125 (.agg #[.int .i64 27, .int .i64 a, .int .i64 b, .int .i64 c, .bool fin, .slice ad nd pd, .slice at' nt pt, .slice ar nr pr, .int .i64 27, .int .i64 0])) ∧ Below w.heap.size w w' := by
  have hmf := hmf0
  have hfd := fld_sp
  go_enter Try.func44, Try.ntmps44
  go_wp2
  refine bodyPost_ret (v := .agg #[.int .i64 27, .int .i64 a, .int .i64 b, .int .i64 c, .bool fin, .slice ad nd pd, .slice at' nt pt, .slice ar nr pr, .int .i64 27, .int .i64 0]) ?_ rfl ?_
  · refine results_cell_row (t := 86) rfl _ _ (w.heap.size + 2) _ (fr := (0, 0)) _ rfl ?_ Try.underlying86 rfl infoSP
    first | exact hp3 _ _ _ _ | exact hp4 _ _ _ _ _ | exact hp43 _ _ _ _ _
  go_wp2
  go_ret
  refine ⟨rfl, ?_⟩
  first | exact al2 _ _ _ | exact al3 _ _ _ _ | exact al4 _ _ _ _ _
set_option maxRecDepth 20000 in
set_option maxHeartbeats 1000000 in
theorem body_close (a b c : Int) (fin : Bool) (ad at' ar : Option Addr) (nd pd nt pt nr pr : Nat) (w : World) :
    Calls Try.prog 44 #[.agg #[.int .i64 28, .int .i64 a, .int .i64 b, .int .i64 c, .bool fin, .slice ad nd pd, .slice at' nt pt, .slice ar nr pr]] w fun e w' => e = .returned (.iface 126 (.agg #[.int .i64 28, .int .i64 a, .int .i64 b, .int .i64 c, .bool fin, .slice ad nd pd, .slice at' nt pt, .slice ar nr pr, .int .i64 28, .int .i64 2])) ∧ Below w.heap.size w w' := by
  have hmf := hmf0
  have hfd := fld_sp
  go_enter Try.func44, Try.ntmps44
  go_wp2
  refine bodyPost_ret (v := .agg #[.int .i64 28, .int .i64 a, .int .i64 b, .int .i64 c, .bool fin, .slice ad nd pd, .slice at' nt pt, .slice ar nr pr, .int .i64 28, .int .i64 2]) ?_ rfl ?_
  · refine results_cell_row (t := 86) rfl _ _ (w.heap.size + 3) _ (fr := (0, 0)) _ rfl ?_ Try.underlying86 rfl infoSP
    first | exact hp3 _ _ _ _ | exact hp4 _ _ _ _ _ | exact hp43 _ _ _ _ _
  go_wp2
  refine bodyPost_ret (v := .agg #[.int .i64 28, .int .i64 a, .int .i64 b, .int .i64 c, .bool fin, .slice ad nd pd, .slice at' nt pt, .slice ar nr pr, .int .i64 28, .int .i64 2]) ?_ rfl ?_
  · refine results_cell_row (t := 95) rfl _ _ (w.heap.size + 2) _ (fr := (0, 0)) _ rfl ?_ Try.underlying95 rfl infoEC
    first | exact hp3 _ _ _ _ | exact hp4 _ _ _ _ _ | exact hp43 _ _ _ _ _
  go_wp2
  go_ret
  refine ⟨rfl, ?_⟩
  first | exact al2 _ _ _ | exact al3 _ _ _ _ | exact al4 _ _ _ _ _
set_option maxRecDepth 20000 in
set_option maxHeartbeats 1000000 in
theorem body_appClose (a b c : Int) (fin : Bool) (ad at' ar : Option Addr) (nd pd nt pt nr pr : Nat) (w : World) :
    Calls Try.prog 44 #[.agg #[.int .i64 29, .int .i64 a, .int .i64 b, .int .i64 c, .bool fin, .slice ad nd pd, .slice at' nt pt, .slice ar nr pr]] w fun e w' => e = .returned (.iface 127 (.agg #[.int .i64 29, .int .i64 a, .int .i64 b, .int .i64 c, .bool fin, .slice ad nd pd, .slice at' nt pt, .slice ar nr pr, .int .i64 29, .int .i64 1])) ∧ Below w.heap.size w w' := by
  have hmf := hmf0
  have hfd := fld_sp
  go_enter Try.func44, Try.ntmps44
  go_wp2
  refine bodyPost_ret (v := .agg #[.int .i64 29, .int .i64 a, .int .i64 b, .int .i64 c, .bool fin, .slice ad nd pd, .slice at' nt pt, .slice ar nr pr, .int .i64 29, .int .i64 1]) ?_ rfl ?_
  · refine results_cell_row (t := 86) rfl _ _ (w.heap.size + 3) _ (fr := (0, 0)) _ rfl ?_ Try.underlying86 rfl infoSP
    first | exact hp3 _ _ _ _ | exact hp4 _ _ _ _ _ | exact hp43 _ _ _ _ _
  go_wp2
  refine bodyPost_ret (v := .agg #[.int .i64 29, .int .i64 a, .int .i64 b, .int .i64 c, .bool fin, .slice ad nd pd, .slice at' nt pt, .slice ar nr pr, .int .i64 29, .int .i64 1]) ?_ rfl ?_
  · refine results_cell_row (t := 91) rfl _ _ (w.heap.size + 2) _ (fr := (0, 0)) _ rfl ?_ Try.underlying91 rfl infoSC
    first | exact hp3 _ _ _ _ | exact hp4 _ _ _ _ _ | exact hp43 _ _ _ _ _
  go_wp2
  go_ret
  refine ⟨rfl, ?_⟩
  first | exact al2 _ _ _ | exact al3 _ _ _ _ | exact al4 _ _ _ _ _
end Go.Proofs.Ytaodcahkkeobdaa
