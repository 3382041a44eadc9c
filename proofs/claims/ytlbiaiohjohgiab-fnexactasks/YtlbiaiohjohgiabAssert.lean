import Derived.Test.YtlbiaiohjohgiabBodyA
namespace Go.Proofs.Ytlbiaiohjohgiab
open Go.RowKit
set_option linter.unusedVariables false

theorem ta_miss {S T x : TypeId} {d : TypeDesc} (hu : Try.prog.underlying T = some d) (hd : (match d with | .interface _ => false | _ => true) = true) (z v : Value) (w : World) (hz : (zeroValue T).run Try.prog w = .ok z w) (h : ¬ S = T) :
    (Instr.typeAssert (.iface S v) x T true).run Try.prog w = .ok (.tuple #[z, .bool false]) w := by
  have hr := run_underlying hu w
  cases d <;> simp_all [Instr.typeAssert, go_sem]
theorem ta_nil {T x : TypeId} {d : TypeDesc} (hu : Try.prog.underlying T = some d) (hd : (match d with | .interface _ => false | _ => true) = true) (z : Value) (w : World) (hz : (zeroValue T).run Try.prog w = .ok z w) :
    (Instr.typeAssert .nilIface x T true).run Try.prog w = .ok (.tuple #[z, .bool false]) w := by
  have hr := run_underlying hu w
  cases d <;> simp_all [Instr.typeAssert, go_sem]
theorem ta_hit {T x : TypeId} {d : TypeDesc} (hu : Try.prog.underlying T = some d) (hd : (match d with | .interface _ => false | _ => true) = true) (v : Value) (w : World) :
    (Instr.typeAssert (.iface T v) x T true).run Try.prog w = .ok (.tuple #[v, .bool true]) w := by
  have hr := run_underlying hu w
  cases d <;> simp_all [Instr.typeAssert, go_sem]
theorem tm_padding (S x : TypeId) (v : Value) (w : World) (h : ¬ S = 36) : (Instr.typeAssert (.iface S v) x 36 true).run Try.prog w = .ok (.tuple #[.agg #[.int .i64 0, .int .i64 0, .int .i64 0, .int .i64 0, .bool false, .slice none 0 0, .slice none 0 0, .slice none 0 0], .bool false]) w :=
  ta_miss Try.underlying36 rfl _ _ _ (by kernel_rfl) h
theorem tn_padding (x : TypeId) (w : World) : (Instr.typeAssert .nilIface x 36 true).run Try.prog w = .ok (.tuple #[.agg #[.int .i64 0, .int .i64 0, .int .i64 0, .int .i64 0, .bool false, .slice none 0 0, .slice none 0 0, .slice none 0 0], .bool false]) w :=
  ta_nil Try.underlying36 rfl _ _ (by kernel_rfl)
theorem th_padding (x : TypeId) (v : Value) (w : World) : (Instr.typeAssert (.iface 36 v) x 36 true).run Try.prog w = .ok (.tuple #[v, .bool true]) w :=
  ta_hit Try.underlying36 rfl _ _
theorem tm_ping (S x : TypeId) (v : Value) (w : World) (h : ¬ S = 57) : (Instr.typeAssert (.iface S v) x 57 true).run Try.prog w = .ok (.tuple #[.agg #[.int .i64 0, .int .i64 0, .int .i64 0, .int .i64 0, .bool false, .slice none 0 0, .slice none 0 0, .slice none 0 0, .int .i64 0, .int .i64 0], .bool false]) w :=
  ta_miss Try.underlying57 rfl _ _ _ (by kernel_rfl) h
theorem tn_ping (x : TypeId) (w : World) : (Instr.typeAssert .nilIface x 57 true).run Try.prog w = .ok (.tuple #[.agg #[.int .i64 0, .int .i64 0, .int .i64 0, .int .i64 0, .bool false, .slice none 0 0, .slice none 0 0, .slice none 0 0, .int .i64 0, .int .i64 0], .bool false]) w :=
  ta_nil Try.underlying57 rfl _ _ (by kernel_rfl)
theorem th_ping (x : TypeId) (v : Value) (w : World) : (Instr.typeAssert (.iface 57 v) x 57 true).run Try.prog w = .ok (.tuple #[v, .bool true]) w :=
  ta_hit Try.underlying57 rfl _ _
theorem tm_ack (S x : TypeId) (v : Value) (w : World) (h : ¬ S = 37) : (Instr.typeAssert (.iface S v) x 37 true).run Try.prog w = .ok (.tuple #[.agg #[.int .i64 0, .int .i64 0, .int .i64 0, .int .i64 0, .bool false, .slice none 0 0, .slice none 0 0, .slice none 0 0], .bool false]) w :=
  ta_miss Try.underlying37 rfl _ _ _ (by kernel_rfl) h
theorem tn_ack (x : TypeId) (w : World) : (Instr.typeAssert .nilIface x 37 true).run Try.prog w = .ok (.tuple #[.agg #[.int .i64 0, .int .i64 0, .int .i64 0, .int .i64 0, .bool false, .slice none 0 0, .slice none 0 0, .slice none 0 0], .bool false]) w :=
  ta_nil Try.underlying37 rfl _ _ (by kernel_rfl)
theorem th_ack (x : TypeId) (v : Value) (w : World) : (Instr.typeAssert (.iface 37 v) x 37 true).run Try.prog w = .ok (.tuple #[v, .bool true]) w :=
  ta_hit Try.underlying37 rfl _ _
theorem tm_reset (S x : TypeId) (v : Value) (w : World) (h : ¬ S = 59) : (Instr.typeAssert (.iface S v) x 59 true).run Try.prog w = .ok (.tuple #[.agg #[.int .i64 0, .int .i64 0, .int .i64 0, .int .i64 0, .bool false, .slice none 0 0, .slice none 0 0, .slice none 0 0, .int .i64 0, .int .i64 0], .bool false]) w :=
  ta_miss Try.underlying59 rfl _ _ _ (by kernel_rfl) h
theorem tn_reset (x : TypeId) (w : World) : (Instr.typeAssert .nilIface x 59 true).run Try.prog w = .ok (.tuple #[.agg #[.int .i64 0, .int .i64 0, .int .i64 0, .int .i64 0, .bool false, .slice none 0 0, .slice none 0 0, .slice none 0 0, .int .i64 0, .int .i64 0], .bool false]) w :=
  ta_nil Try.underlying59 rfl _ _ (by kernel_rfl)
theorem th_reset (x : TypeId) (v : Value) (w : World) : (Instr.typeAssert (.iface 59 v) x 59 true).run Try.prog w = .ok (.tuple #[v, .bool true]) w :=
  ta_hit Try.underlying59 rfl _ _
theorem tm_stop (S x : TypeId) (v : Value) (w : World) (h : ¬ S = 60) : (Instr.typeAssert (.iface S v) x 60 true).run Try.prog w = .ok (.tuple #[.agg #[.int .i64 0, .int .i64 0, .int .i64 0, .int .i64 0, .bool false, .slice none 0 0, .slice none 0 0, .slice none 0 0, .int .i64 0, .int .i64 0], .bool false]) w :=
  ta_miss Try.underlying60 rfl _ _ _ (by kernel_rfl) h
theorem tn_stop (x : TypeId) (w : World) : (Instr.typeAssert .nilIface x 60 true).run Try.prog w = .ok (.tuple #[.agg #[.int .i64 0, .int .i64 0, .int .i64 0, .int .i64 0, .bool false, .slice none 0 0, .slice none 0 0, .slice none 0 0, .int .i64 0, .int .i64 0], .bool false]) w :=
  ta_nil Try.underlying60 rfl _ _ (by kernel_rfl)
theorem th_stop (x : TypeId) (v : Value) (w : World) : (Instr.typeAssert (.iface 60 v) x 60 true).run Try.prog w = .ok (.tuple #[v, .bool true]) w :=
  ta_hit Try.underlying60 rfl _ _
theorem tm_crypto (S x : TypeId) (v : Value) (w : World) (h : ¬ S = 61) : (Instr.typeAssert (.iface S v) x 61 true).run Try.prog w = .ok (.tuple #[.agg #[.int .i64 0, .int .i64 0, .int .i64 0, .int .i64 0, .bool false, .slice none 0 0, .slice none 0 0, .slice none 0 0, .int .i64 0, .int .i64 0], .bool false]) w :=
  ta_miss Try.underlying61 rfl _ _ _ (by kernel_rfl) h
theorem tn_crypto (x : TypeId) (w : World) : (Instr.typeAssert .nilIface x 61 true).run Try.prog w = .ok (.tuple #[.agg #[.int .i64 0, .int .i64 0, .int .i64 0, .int .i64 0, .bool false, .slice none 0 0, .slice none 0 0, .slice none 0 0, .int .i64 0, .int .i64 0], .bool false]) w :=
  ta_nil Try.underlying61 rfl _ _ (by kernel_rfl)
theorem th_crypto (x : TypeId) (v : Value) (w : World) : (Instr.typeAssert (.iface 61 v) x 61 true).run Try.prog w = .ok (.tuple #[v, .bool true]) w :=
  ta_hit Try.underlying61 rfl _ _
theorem tm_newToken (S x : TypeId) (v : Value) (w : World) (h : ¬ S = 62) : (Instr.typeAssert (.iface S v) x 62 true).run Try.prog w = .ok (.tuple #[.agg #[.int .i64 0, .int .i64 0, .int .i64 0, .int .i64 0, .bool false, .slice none 0 0, .slice none 0 0, .slice none 0 0, .int .i64 0, .int .i64 0], .bool false]) w :=
  ta_miss Try.underlying62 rfl _ _ _ (by kernel_rfl) h
theorem tn_newToken (x : TypeId) (w : World) : (Instr.typeAssert .nilIface x 62 true).run Try.prog w = .ok (.tuple #[.agg #[.int .i64 0, .int .i64 0, .int .i64 0, .int .i64 0, .bool false, .slice none 0 0, .slice none 0 0, .slice none 0 0, .int .i64 0, .int .i64 0], .bool false]) w :=
  ta_nil Try.underlying62 rfl _ _ (by kernel_rfl)
theorem th_newToken (x : TypeId) (v : Value) (w : World) : (Instr.typeAssert (.iface 62 v) x 62 true).run Try.prog w = .ok (.tuple #[v, .bool true]) w :=
  ta_hit Try.underlying62 rfl _ _
theorem tm_maxData (S x : TypeId) (v : Value) (w : World) (h : ¬ S = 65) : (Instr.typeAssert (.iface S v) x 65 true).run Try.prog w = .ok (.tuple #[.agg #[.int .i64 0, .int .i64 0, .int .i64 0, .int .i64 0, .bool false, .slice none 0 0, .slice none 0 0, .slice none 0 0, .int .i64 0, .int .i64 0], .bool false]) w :=
  ta_miss Try.underlying65 rfl _ _ _ (by kernel_rfl) h
theorem tn_maxData (x : TypeId) (w : World) : (Instr.typeAssert .nilIface x 65 true).run Try.prog w = .ok (.tuple #[.agg #[.int .i64 0, .int .i64 0, .int .i64 0, .int .i64 0, .bool false, .slice none 0 0, .slice none 0 0, .slice none 0 0, .int .i64 0, .int .i64 0], .bool false]) w :=
  ta_nil Try.underlying65 rfl _ _ (by kernel_rfl)
theorem th_maxData (x : TypeId) (v : Value) (w : World) : (Instr.typeAssert (.iface 65 v) x 65 true).run Try.prog w = .ok (.tuple #[v, .bool true]) w :=
  ta_hit Try.underlying65 rfl _ _
theorem tm_maxStreamData (S x : TypeId) (v : Value) (w : World) (h : ¬ S = 66) : (Instr.typeAssert (.iface S v) x 66 true).run Try.prog w = .ok (.tuple #[.agg #[.int .i64 0, .int .i64 0, .int .i64 0, .int .i64 0, .bool false, .slice none 0 0, .slice none 0 0, .slice none 0 0, .int .i64 0, .int .i64 0], .bool false]) w :=
  ta_miss Try.underlying66 rfl _ _ _ (by kernel_rfl) h
theorem tn_maxStreamData (x : TypeId) (w : World) : (Instr.typeAssert .nilIface x 66 true).run Try.prog w = .ok (.tuple #[.agg #[.int .i64 0, .int .i64 0, .int .i64 0, .int .i64 0, .bool false, .slice none 0 0, .slice none 0 0, .slice none 0 0, .int .i64 0, .int .i64 0], .bool false]) w :=
  ta_nil Try.underlying66 rfl _ _ (by kernel_rfl)
theorem th_maxStreamData (x : TypeId) (v : Value) (w : World) : (Instr.typeAssert (.iface 66 v) x 66 true).run Try.prog w = .ok (.tuple #[v, .bool true]) w :=
  ta_hit Try.underlying66 rfl _ _
theorem tm_maxStreams (S x : TypeId) (v : Value) (w : World) (h : ¬ S = 68) : (Instr.typeAssert (.iface S v) x 68 true).run Try.prog w = .ok (.tuple #[.agg #[.int .i64 0, .int .i64 0, .int .i64 0, .int .i64 0, .bool false, .slice none 0 0, .slice none 0 0, .slice none 0 0, .int .i64 0, .int .i64 0], .bool false]) w :=
  ta_miss Try.underlying68 rfl _ _ _ (by kernel_rfl) h
theorem tn_maxStreams (x : TypeId) (w : World) : (Instr.typeAssert .nilIface x 68 true).run Try.prog w = .ok (.tuple #[.agg #[.int .i64 0, .int .i64 0, .int .i64 0, .int .i64 0, .bool false, .slice none 0 0, .slice none 0 0, .slice none 0 0, .int .i64 0, .int .i64 0], .bool false]) w :=
  ta_nil Try.underlying68 rfl _ _ (by kernel_rfl)
theorem th_maxStreams (x : TypeId) (v : Value) (w : World) : (Instr.typeAssert (.iface 68 v) x 68 true).run Try.prog w = .ok (.tuple #[v, .bool true]) w :=
  ta_hit Try.underlying68 rfl _ _
theorem tm_dataBlocked (S x : TypeId) (v : Value) (w : World) (h : ¬ S = 69) : (Instr.typeAssert (.iface S v) x 69 true).run Try.prog w = .ok (.tuple #[.agg #[.int .i64 0, .int .i64 0, .int .i64 0, .int .i64 0, .bool false, .slice none 0 0, .slice none 0 0, .slice none 0 0, .int .i64 0, .int .i64 0], .bool false]) w :=
  ta_miss Try.underlying69 rfl _ _ _ (by kernel_rfl) h
theorem tn_dataBlocked (x : TypeId) (w : World) : (Instr.typeAssert .nilIface x 69 true).run Try.prog w = .ok (.tuple #[.agg #[.int .i64 0, .int .i64 0, .int .i64 0, .int .i64 0, .bool false, .slice none 0 0, .slice none 0 0, .slice none 0 0, .int .i64 0, .int .i64 0], .bool false]) w :=
  ta_nil Try.underlying69 rfl _ _ (by kernel_rfl)
theorem th_dataBlocked (x : TypeId) (v : Value) (w : World) : (Instr.typeAssert (.iface 69 v) x 69 true).run Try.prog w = .ok (.tuple #[v, .bool true]) w :=
  ta_hit Try.underlying69 rfl _ _
theorem tm_streamBlocked (S x : TypeId) (v : Value) (w : World) (h : ¬ S = 70) : (Instr.typeAssert (.iface S v) x 70 true).run Try.prog w = .ok (.tuple #[.agg #[.int .i64 0, .int .i64 0, .int .i64 0, .int .i64 0, .bool false, .slice none 0 0, .slice none 0 0, .slice none 0 0, .int .i64 0, .int .i64 0], .bool false]) w :=
  ta_miss Try.underlying70 rfl _ _ _ (by kernel_rfl) h
theorem tn_streamBlocked (x : TypeId) (w : World) : (Instr.typeAssert .nilIface x 70 true).run Try.prog w = .ok (.tuple #[.agg #[.int .i64 0, .int .i64 0, .int .i64 0, .int .i64 0, .bool false, .slice none 0 0, .slice none 0 0, .slice none 0 0, .int .i64 0, .int .i64 0], .bool false]) w :=
  ta_nil Try.underlying70 rfl _ _ (by kernel_rfl)
theorem th_streamBlocked (x : TypeId) (v : Value) (w : World) : (Instr.typeAssert (.iface 70 v) x 70 true).run Try.prog w = .ok (.tuple #[v, .bool true]) w :=
  ta_hit Try.underlying70 rfl _ _
theorem tm_streamsBlocked (S x : TypeId) (v : Value) (w : World) (h : ¬ S = 71) : (Instr.typeAssert (.iface S v) x 71 true).run Try.prog w = .ok (.tuple #[.agg #[.int .i64 0, .int .i64 0, .int .i64 0, .int .i64 0, .bool false, .slice none 0 0, .slice none 0 0, .slice none 0 0, .int .i64 0, .int .i64 0], .bool false]) w :=
  ta_miss Try.underlying71 rfl _ _ _ (by kernel_rfl) h
theorem tn_streamsBlocked (x : TypeId) (w : World) : (Instr.typeAssert .nilIface x 71 true).run Try.prog w = .ok (.tuple #[.agg #[.int .i64 0, .int .i64 0, .int .i64 0, .int .i64 0, .bool false, .slice none 0 0, .slice none 0 0, .slice none 0 0, .int .i64 0, .int .i64 0], .bool false]) w :=
  ta_nil Try.underlying71 rfl _ _ (by kernel_rfl)
theorem th_streamsBlocked (x : TypeId) (v : Value) (w : World) : (Instr.typeAssert (.iface 71 v) x 71 true).run Try.prog w = .ok (.tuple #[v, .bool true]) w :=
  ta_hit Try.underlying71 rfl _ _
theorem tm_newId (S x : TypeId) (v : Value) (w : World) (h : ¬ S = 72) : (Instr.typeAssert (.iface S v) x 72 true).run Try.prog w = .ok (.tuple #[.agg #[.int .i64 0, .int .i64 0, .int .i64 0, .int .i64 0, .bool false, .slice none 0 0, .slice none 0 0, .slice none 0 0, .int .i64 0, .int .i64 0], .bool false]) w :=
  ta_miss Try.underlying72 rfl _ _ _ (by kernel_rfl) h
theorem tn_newId (x : TypeId) (w : World) : (Instr.typeAssert .nilIface x 72 true).run Try.prog w = .ok (.tuple #[.agg #[.int .i64 0, .int .i64 0, .int .i64 0, .int .i64 0, .bool false, .slice none 0 0, .slice none 0 0, .slice none 0 0, .int .i64 0, .int .i64 0], .bool false]) w :=
  ta_nil Try.underlying72 rfl _ _ (by kernel_rfl)
theorem th_newId (x : TypeId) (v : Value) (w : World) : (Instr.typeAssert (.iface 72 v) x 72 true).run Try.prog w = .ok (.tuple #[v, .bool true]) w :=
  ta_hit Try.underlying72 rfl _ _
theorem tm_retireId (S x : TypeId) (v : Value) (w : World) (h : ¬ S = 73) : (Instr.typeAssert (.iface S v) x 73 true).run Try.prog w = .ok (.tuple #[.agg #[.int .i64 0, .int .i64 0, .int .i64 0, .int .i64 0, .bool false, .slice none 0 0, .slice none 0 0, .slice none 0 0, .int .i64 0, .int .i64 0], .bool false]) w :=
  ta_miss Try.underlying73 rfl _ _ _ (by kernel_rfl) h
theorem tn_retireId (x : TypeId) (w : World) : (Instr.typeAssert .nilIface x 73 true).run Try.prog w = .ok (.tuple #[.agg #[.int .i64 0, .int .i64 0, .int .i64 0, .int .i64 0, .bool false, .slice none 0 0, .slice none 0 0, .slice none 0 0, .int .i64 0, .int .i64 0], .bool false]) w :=
  ta_nil Try.underlying73 rfl _ _ (by kernel_rfl)
theorem th_retireId (x : TypeId) (v : Value) (w : World) : (Instr.typeAssert (.iface 73 v) x 73 true).run Try.prog w = .ok (.tuple #[v, .bool true]) w :=
  ta_hit Try.underlying73 rfl _ _
theorem tm_challenge (S x : TypeId) (v : Value) (w : World) (h : ¬ S = 78) : (Instr.typeAssert (.iface S v) x 78 true).run Try.prog w = .ok (.tuple #[.agg #[.int .i64 0, .int .i64 0, .int .i64 0, .int .i64 0, .bool false, .slice none 0 0, .slice none 0 0, .slice none 0 0, .int .i64 0, .int .i64 0], .bool false]) w :=
  ta_miss Try.underlying78 rfl _ _ _ (by kernel_rfl) h
theorem tn_challenge (x : TypeId) (w : World) : (Instr.typeAssert .nilIface x 78 true).run Try.prog w = .ok (.tuple #[.agg #[.int .i64 0, .int .i64 0, .int .i64 0, .int .i64 0, .bool false, .slice none 0 0, .slice none 0 0, .slice none 0 0, .int .i64 0, .int .i64 0], .bool false]) w :=
  ta_nil Try.underlying78 rfl _ _ (by kernel_rfl)
theorem th_challenge (x : TypeId) (v : Value) (w : World) : (Instr.typeAssert (.iface 78 v) x 78 true).run Try.prog w = .ok (.tuple #[v, .bool true]) w :=
  ta_hit Try.underlying78 rfl _ _
theorem tm_response (S x : TypeId) (v : Value) (w : World) (h : ¬ S = 79) : (Instr.typeAssert (.iface S v) x 79 true).run Try.prog w = .ok (.tuple #[.agg #[.int .i64 0, .int .i64 0, .int .i64 0, .int .i64 0, .bool false, .slice none 0 0, .slice none 0 0, .slice none 0 0, .int .i64 0, .int .i64 0], .bool false]) w :=
  ta_miss Try.underlying79 rfl _ _ _ (by kernel_rfl) h
theorem tn_response (x : TypeId) (w : World) : (Instr.typeAssert .nilIface x 79 true).run Try.prog w = .ok (.tuple #[.agg #[.int .i64 0, .int .i64 0, .int .i64 0, .int .i64 0, .bool false, .slice none 0 0, .slice none 0 0, .slice none 0 0, .int .i64 0, .int .i64 0], .bool false]) w :=
  ta_nil Try.underlying79 rfl _ _ (by kernel_rfl)
theorem th_response (x : TypeId) (v : Value) (w : World) : (Instr.typeAssert (.iface 79 v) x 79 true).run Try.prog w = .ok (.tuple #[v, .bool true]) w :=
  ta_hit Try.underlying79 rfl _ _
theorem tm_close (S x : TypeId) (v : Value) (w : World) (h : ¬ S = 45) : (Instr.typeAssert (.iface S v) x 45 true).run Try.prog w = .ok (.tuple #[.agg #[.int .i64 0, .int .i64 0, .int .i64 0, .int .i64 0, .bool false, .slice none 0 0, .slice none 0 0, .slice none 0 0, .int .i64 0, .int .i64 0], .bool false]) w :=
  ta_miss Try.underlying45 rfl _ _ _ (by kernel_rfl) h
theorem tn_close (x : TypeId) (w : World) : (Instr.typeAssert .nilIface x 45 true).run Try.prog w = .ok (.tuple #[.agg #[.int .i64 0, .int .i64 0, .int .i64 0, .int .i64 0, .bool false, .slice none 0 0, .slice none 0 0, .slice none 0 0, .int .i64 0, .int .i64 0], .bool false]) w :=
  ta_nil Try.underlying45 rfl _ _ (by kernel_rfl)
theorem th_close (x : TypeId) (v : Value) (w : World) : (Instr.typeAssert (.iface 45 v) x 45 true).run Try.prog w = .ok (.tuple #[v, .bool true]) w :=
  ta_hit Try.underlying45 rfl _ _
theorem tm_appClose (S x : TypeId) (v : Value) (w : World) (h : ¬ S = 50) : (Instr.typeAssert (.iface S v) x 50 true).run Try.prog w = .ok (.tuple #[.agg #[.int .i64 0, .int .i64 0, .int .i64 0, .int .i64 0, .bool false, .slice none 0 0, .slice none 0 0, .slice none 0 0, .int .i64 0, .int .i64 0], .bool false]) w :=
  ta_miss Try.underlying50 rfl _ _ _ (by kernel_rfl) h
theorem tn_appClose (x : TypeId) (w : World) : (Instr.typeAssert .nilIface x 50 true).run Try.prog w = .ok (.tuple #[.agg #[.int .i64 0, .int .i64 0, .int .i64 0, .int .i64 0, .bool false, .slice none 0 0, .slice none 0 0, .slice none 0 0, .int .i64 0, .int .i64 0], .bool false]) w :=
  ta_nil Try.underlying50 rfl _ _ (by kernel_rfl)
theorem th_appClose (x : TypeId) (v : Value) (w : World) : (Instr.typeAssert (.iface 50 v) x 50 true).run Try.prog w = .ok (.tuple #[v, .bool true]) w :=
  ta_hit Try.underlying50 rfl _ _
theorem tm_done (S x : TypeId) (v : Value) (w : World) (h : ¬ S = 80) : (Instr.typeAssert (.iface S v) x 80 true).run Try.prog w = .ok (.tuple #[.agg #[.int .i64 0, .int .i64 0, .int .i64 0, .int .i64 0, .bool false, .slice none 0 0, .slice none 0 0, .slice none 0 0, .int .i64 0, .int .i64 0], .bool false]) w :=
  ta_miss Try.underlying80 rfl _ _ _ (by kernel_rfl) h
theorem tn_done (x : TypeId) (w : World) : (Instr.typeAssert .nilIface x 80 true).run Try.prog w = .ok (.tuple #[.agg #[.int .i64 0, .int .i64 0, .int .i64 0, .int .i64 0, .bool false, .slice none 0 0, .slice none 0 0, .slice none 0 0, .int .i64 0, .int .i64 0], .bool false]) w :=
  ta_nil Try.underlying80 rfl _ _ (by kernel_rfl)
theorem th_done (x : TypeId) (v : Value) (w : World) : (Instr.typeAssert (.iface 80 v) x 80 true).run Try.prog w = .ok (.tuple #[v, .bool true]) w :=
  ta_hit Try.underlying80 rfl _ _
theorem tm_datagram (S x : TypeId) (v : Value) (w : World) (h : ¬ S = 81) : (Instr.typeAssert (.iface S v) x 81 true).run Try.prog w = .ok (.tuple #[.agg #[.int .i64 0, .int .i64 0, .int .i64 0, .int .i64 0, .bool false, .slice none 0 0, .slice none 0 0, .slice none 0 0, .int .i64 0, .int .i64 0], .bool false]) w :=
  ta_miss Try.underlying81 rfl _ _ _ (by kernel_rfl) h
theorem tn_datagram (x : TypeId) (w : World) : (Instr.typeAssert .nilIface x 81 true).run Try.prog w = .ok (.tuple #[.agg #[.int .i64 0, .int .i64 0, .int .i64 0, .int .i64 0, .bool false, .slice none 0 0, .slice none 0 0, .slice none 0 0, .int .i64 0, .int .i64 0], .bool false]) w :=
  ta_nil Try.underlying81 rfl _ _ (by kernel_rfl)
theorem th_datagram (x : TypeId) (v : Value) (w : World) : (Instr.typeAssert (.iface 81 v) x 81 true).run Try.prog w = .ok (.tuple #[v, .bool true]) w :=
  ta_hit Try.underlying81 rfl _ _
theorem tm_stream (S x : TypeId) (v : Value) (w : World) (h : ¬ S = 63) : (Instr.typeAssert (.iface S v) x 63 true).run Try.prog w = .ok (.tuple #[.agg #[.int .i64 0, .int .i64 0, .int .i64 0, .int .i64 0, .bool false, .slice none 0 0, .slice none 0 0, .slice none 0 0, .int .i64 0, .int .i64 0], .bool false]) w :=
  ta_miss Try.underlying63 rfl _ _ _ (by kernel_rfl) h
theorem tn_stream (x : TypeId) (w : World) : (Instr.typeAssert .nilIface x 63 true).run Try.prog w = .ok (.tuple #[.agg #[.int .i64 0, .int .i64 0, .int .i64 0, .int .i64 0, .bool false, .slice none 0 0, .slice none 0 0, .slice none 0 0, .int .i64 0, .int .i64 0], .bool false]) w :=
  ta_nil Try.underlying63 rfl _ _ (by kernel_rfl)
theorem th_stream (x : TypeId) (v : Value) (w : World) : (Instr.typeAssert (.iface 63 v) x 63 true).run Try.prog w = .ok (.tuple #[v, .bool true]) w :=
  ta_hit Try.underlying63 rfl _ _
end Go.Proofs.Ytlbiaiohjohgiab
