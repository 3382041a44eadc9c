import Derived.Test.YtaodcahkkeobdaaBodyA
namespace Go.Proofs.Ytaodcahkkeobdaa
open Go.RowKit
set_option linter.unusedVariables false

set_option maxRecDepth 20000 in
set_option maxHeartbeats 1000000 in
theorem body_padding (a b c : Int) (fin : Bool) (ad at' ar : Option Addr) (nd pd nt pt nr pr : Nat) (w : World) :
    Calls Try.prog 44 #[.agg #[.int .i64 0, .int .i64 a, .int .i64 b, .int .i64 c, .bool fin, .slice ad nd pd, .slice at' nt pt, .slice ar nr pr]] w fun e w' => e = .returned (.iface 98 (.agg #[.int .i64 0, .int .i64 a, .int .i64 b, .int .i64 c, .bool fin, .slice ad nd pd, .slice at' nt pt, .slice ar nr pr])) ∧ Below w.heap.size w w' := by
  have hmf := hmf0
  have hfd := fld_sp
  go_enter Try.func44, Try.ntmps44
  go_wp2
  go_ret
  refine ⟨rfl, ?_⟩
  first | exact al2 _ _ _ | exact al3 _ _ _ _ | exact al4 _ _ _ _ _
set_option maxRecDepth 20000 in
set_option maxHeartbeats 1000000 in
theorem body_ping (a b c : Int) (fin : Bool) (ad at' ar : Option Addr) (nd pd nt pt nr pr : Nat) (w : World) :
    Calls Try.prog 44 #[.agg #[.int .i64 1, .int .i64 a, .int .i64 b, .int .i64 c, .bool fin, .slice ad nd pd, .slice at' nt pt, .slice ar nr pr]] w fun e w' => e = .returned (.iface 100 (.agg #[.int .i64 1, .int .i64 a, .int .i64 b, .int .i64 c, .bool fin, .slice ad nd pd, .slice at' nt pt, .slice ar nr pr, .int .i64 1, .int .i64 0])) ∧ Below w.heap.size w w' := by
  have hmf := hmf0
  have hfd := fld_sp
  go_enter Try.func44, Try.ntmps44
  go_wp2
  refine bodyPost_ret (v := .agg #[.int .i64 1, .int .i64 a, .int .i64 b, .int .i64 c, .bool fin, .slice ad nd pd, .slice at' nt pt, .slice ar nr pr, .int .i64 1, .int .i64 0]) ?_ rfl ?_
  · refine results_cell_row (t := 86) rfl _ _ (w.heap.size + 2) _ (fr := (0, 0)) _ rfl ?_ Try.underlying86 rfl infoSP
    first | exact hp3 _ _ _ _ | exact hp4 _ _ _ _ _ | exact hp43 _ _ _ _ _
  go_wp2
  go_ret
  refine ⟨rfl, ?_⟩
  first | exact al2 _ _ _ | exact al3 _ _ _ _ | exact al4 _ _ _ _ _
set_option maxRecDepth 20000 in
set_option maxHeartbeats 1000000 in
theorem body_ack (a b c : Int) (fin : Bool) (ad at' ar : Option Addr) (nd pd nt pt nr pr : Nat) (w : World) :
    Calls Try.prog 44 #[.agg #[.int .i64 2, .int .i64 a, .int .i64 b, .int .i64 c, .bool fin, .slice ad nd pd, .slice at' nt pt, .slice ar nr pr]] w fun e w' => e = .returned (.iface 101 (.agg #[.int .i64 2, .int .i64 a, .int .i64 b, .int .i64 c, .bool fin, .slice ad nd pd, .slice at' nt pt, .slice ar nr pr])) ∧ Below w.heap.size w w' := by
  have hmf := hmf0
  have hfd := fld_sp
  go_enter Try.func44, Try.ntmps44
  go_wp2
  go_ret
  refine ⟨rfl, ?_⟩
  first | exact al2 _ _ _ | exact al3 _ _ _ _ | exact al4 _ _ _ _ _
set_option maxRecDepth 20000 in
set_option maxHeartbeats 1000000 in
theorem body_reset (a b c : Int) (fin : Bool) (ad at' ar : Option Addr) (nd pd nt pt nr pr : Nat) (w : World) :
    Calls Try.prog 44 #[.agg #[.int .i64 4, .int .i64 a, .int .i64 b, .int .i64 c, .bool fin, .slice ad nd pd, .slice at' nt pt, .slice ar nr pr]] w fun e w' => e = .returned (.iface 103 (.agg #[.int .i64 4, .int .i64 a, .int .i64 b, .int .i64 c, .bool fin, .slice ad nd pd, .slice at' nt pt, .slice ar nr pr, .int .i64 4, .int .i64 3])) ∧ Below w.heap.size w w' := by
  have hmf := hmf0
  have hfd := fld_sp
  go_enter Try.func44, Try.ntmps44
  go_wp2
  refine bodyPost_ret (v := .agg #[.int .i64 4, .int .i64 a, .int .i64 b, .int .i64 c, .bool fin, .slice ad nd pd, .slice at' nt pt, .slice ar nr pr, .int .i64 4, .int .i64 3]) ?_ rfl ?_
  · refine results_cell_row (t := 86) rfl _ _ (w.heap.size + 2) _ (fr := (0, 0)) _ rfl ?_ Try.underlying86 rfl infoSP
    first | exact hp3 _ _ _ _ | exact hp4 _ _ _ _ _ | exact hp43 _ _ _ _ _
  go_wp2
  go_ret
  refine ⟨rfl, ?_⟩
  first | exact al2 _ _ _ | exact al3 _ _ _ _ | exact al4 _ _ _ _ _
set_option maxRecDepth 20000 in
set_option maxHeartbeats 1000000 in
theorem body_stop (a b c : Int) (fin : Bool) (ad at' ar : Option Addr) (nd pd nt pt nr pr : Nat) (w : World) :
    Calls Try.prog 44 #[.agg #[.int .i64 5, .int .i64 a, .int .i64 b, .int .i64 c, .bool fin, .slice ad nd pd, .slice at' nt pt, .slice ar nr pr]] w fun e w' => e = .returned (.iface 104 (.agg #[.int .i64 5, .int .i64 a, .int .i64 b, .int .i64 c, .bool fin, .slice ad nd pd, .slice at' nt pt, .slice ar nr pr, .int .i64 5, .int .i64 2])) ∧ Below w.heap.size w w' := by
  have hmf := hmf0
  have hfd := fld_sp
  go_enter Try.func44, Try.ntmps44
  go_wp2
  refine bodyPost_ret (v := .agg #[.int .i64 5, .int .i64 a, .int .i64 b, .int .i64 c, .bool fin, .slice ad nd pd, .slice at' nt pt, .slice ar nr pr, .int .i64 5, .int .i64 2]) ?_ rfl ?_
  · refine results_cell_row (t := 86) rfl _ _ (w.heap.size + 2) _ (fr := (0, 0)) _ rfl ?_ Try.underlying86 rfl infoSP
    first | exact hp3 _ _ _ _ | exact hp4 _ _ _ _ _ | exact hp43 _ _ _ _ _
  go_wp2
  go_ret
  refine ⟨rfl, ?_⟩
  first | exact al2 _ _ _ | exact al3 _ _ _ _ | exact al4 _ _ _ _ _
set_option maxRecDepth 20000 in
set_option maxHeartbeats 1000000 in
theorem body_crypto (a b c : Int) (fin : Bool) (ad at' ar : Option Addr) (nd pd nt pt nr pr : Nat) (w : World) :
    Calls Try.prog 44 #[.agg #[.int .i64 6, .int .i64 a, .int .i64 b, .int .i64 c, .bool fin, .slice ad nd pd, .slice at' nt pt, .slice ar nr pr]] w fun e w' => e = .returned (.iface 106 (.agg #[.int .i64 6, .int .i64 a, .int .i64 b, .int .i64 c, .bool fin, .slice ad nd pd, .slice at' nt pt, .slice ar nr pr, .int .i64 6, .int .i64 1])) ∧ Below w.heap.size w w' := by
  have hmf := hmf0
  have hfd := fld_sp
  go_enter Try.func44, Try.ntmps44
  go_wp2
  refine bodyPost_ret (v := .agg #[.int .i64 6, .int .i64 a, .int .i64 b, .int .i64 c, .bool fin, .slice ad nd pd, .slice at' nt pt, .slice ar nr pr, .int .i64 6, .int .i64 1]) ?_ rfl ?_
  · refine results_cell_row (t := 86) rfl _ _ (w.heap.size + 3) _ (fr := (0, 0)) _ rfl ?_ Try.underlying86 rfl infoSP
    first | exact hp3 _ _ _ _ | exact hp4 _ _ _ _ _ | exact hp43 _ _ _ _ _
  go_wp2
  refine bodyPost_ret (v := .agg #[.int .i64 6, .int .i64 a, .int .i64 b, .int .i64 c, .bool fin, .slice ad nd pd, .slice at' nt pt, .slice ar nr pr, .int .i64 6, .int .i64 1]) ?_ rfl ?_
  · refine results_cell_row (t := 95) rfl _ _ (w.heap.size + 2) _ (fr := (0, 0)) _ rfl ?_ Try.underlying95 rfl infoEC
    first | exact hp3 _ _ _ _ | exact hp4 _ _ _ _ _ | exact hp43 _ _ _ _ _
  go_wp2
  go_ret
  refine ⟨rfl, ?_⟩
  first | exact al2 _ _ _ | exact al3 _ _ _ _ | exact al4 _ _ _ _ _
set_option maxRecDepth 20000 in
set_option maxHeartbeats 1000000 in
theorem body_newToken (a b c : Int) (fin : Bool) (ad at' ar : Option Addr) (nd pd nt pt nr pr : Nat) (w : World) :
    Calls Try.prog 44 #[.agg #[.int .i64 7, .int .i64 a, .int .i64 b, .int .i64 c, .bool fin, .slice ad nd pd, .slice at' nt pt, .slice ar nr pr]] w fun e w' => e = .returned (.iface 108 (.agg #[.int .i64 7, .int .i64 a, .int .i64 b, .int .i64 c, .bool fin, .slice ad nd pd, .slice at' nt pt, .slice ar nr pr, .int .i64 7, .int .i64 0])) ∧ Below w.heap.size w w' := by
  have hmf := hmf0
  have hfd := fld_sp
  go_enter Try.func44, Try.ntmps44
  go_wp2
  refine bodyPost_ret (v := .agg #[.int .i64 7, .int .i64 a, .int .i64 b, .int .i64 c, .bool fin, .slice ad nd pd, .slice at' nt pt, .slice ar nr pr, .int .i64 7, .int .i64 0]) ?_ rfl ?_
  · refine results_cell_row (t := 86) rfl _ _ (w.heap.size + 3) _ (fr := (0, 0)) _ rfl ?_ Try.underlying86 rfl infoSP
    first | exact hp3 _ _ _ _ | exact hp4 _ _ _ _ _ | exact hp43 _ _ _ _ _
  go_wp2
  refine bodyPost_ret (v := .agg #[.int .i64 7, .int .i64 a, .int .i64 b, .int .i64 c, .bool fin, .slice ad nd pd, .slice at' nt pt, .slice ar nr pr, .int .i64 7, .int .i64 0]) ?_ rfl ?_
  · refine results_cell_row (t := 91) rfl _ _ (w.heap.size + 2) _ (fr := (0, 0)) _ rfl ?_ Try.underlying91 rfl infoSC
    first | exact hp3 _ _ _ _ | exact hp4 _ _ _ _ _ | exact hp43 _ _ _ _ _
  go_wp2
  go_ret
  refine ⟨rfl, ?_⟩
  first | exact al2 _ _ _ | exact al3 _ _ _ _ | exact al4 _ _ _ _ _
end Go.Proofs.Ytaodcahkkeobdaa
