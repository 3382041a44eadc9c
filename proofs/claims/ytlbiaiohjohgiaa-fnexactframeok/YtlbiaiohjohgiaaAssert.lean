import Derived.Test.YtlbiaiohjohgiaaBodyA
namespace Go.Proofs.Ytlbiaiohjohgiaa
open Go.RowKit
set_option linter.unusedVariables false

theorem ta_miss {S T x : TypeId} {d : TypeDesc} (hu : Try.prog.underlying T = some d) (hd : (match d with | .interface _ => false | _ => true) = true) (z v : Value) (w : World) (hz : (zeroValue T).run Try.prog w = .ok z w) (h : ¬ S = T) :
    (Instr.typeAssert (.iface S v) x T true).run Try.prog w = .ok (.tuple #[z, .bool false]) w := by
  have hr := run_underlying hu w
  cases d <;> simp_all [Instr.typeAssert, go_sem]
theorem ta_nil {T x : TypeId} {d : TypeDesc} (hu : Try.prog.underlying T = some d) (hd : (match d with | .interface _ => false | _ => true) = true) (z : Value) (w : World) (hz : (zeroValue T).run Try.prog w = .ok z w) :
    (Instr.typeAssert .nilIface x T true).run Try.prog w = .ok (.tuple #[z, .bool false]) w := by
  have hr := run_underlying hu w
  cases d <;> simp_all [Instr.typeAssert, go_sem]
theorem ta_hit {T x : TypeId} {d : TypeDesc} (hu : Try.prog.underlying T = some d) (hd : (match d with | .interface _ => false | _ => true) = true) (v : Value) (w : World) :
    (Instr.typeAssert (.iface T v) x T true).run Try.prog w = .ok (.tuple #[v, .bool true]) w := by
  have hr := run_underlying hu w
  cases d <;> simp_all [Instr.typeAssert, go_sem]
theorem tm_padding (S x : TypeId) (v : Value) (w : World) (h : ¬ S = 86) : (Instr.typeAssert (.iface S v) x 86 true).run Try.prog w = .ok (.tuple #[.agg #[.int .i64 0, .int .i64 0, .int .i64 0, .int .i64 0, .bool false, .slice none 0 0, .slice none 0 0, .slice none 0 0], .bool false]) w :=
  ta_miss Try.underlying86 rfl _ _ _ (by kernel_rfl) h
theorem tn_padding (x : TypeId) (w : World) : (Instr.typeAssert .nilIface x 86 true).run Try.prog w = .ok (.tuple #[.agg #[.int .i64 0, .int .i64 0, .int .i64 0, .int .i64 0, .bool false, .slice none 0 0, .slice none 0 0, .slice none 0 0], .bool false]) w :=
  ta_nil Try.underlying86 rfl _ _ (by kernel_rfl)
theorem th_padding (x : TypeId) (v : Value) (w : World) : (Instr.typeAssert (.iface 86 v) x 86 true).run Try.prog w = .ok (.tuple #[v, .bool true]) w :=
  ta_hit Try.underlying86 rfl _ _
theorem tm_ping (S x : TypeId) (v : Value) (w : World) (h : ¬ S = 88) : (Instr.typeAssert (.iface S v) x 88 true).run Try.prog w = .ok (.tuple #[.agg #[.int .i64 0, .int .i64 0, .int .i64 0, .int .i64 0, .bool false, .slice none 0 0, .slice none 0 0, .slice none 0 0, .int .i64 0, .int .i64 0], .bool false]) w :=
  ta_miss Try.underlying88 rfl _ _ _ (by kernel_rfl) h
theorem tn_ping (x : TypeId) (w : World) : (Instr.typeAssert .nilIface x 88 true).run Try.prog w = .ok (.tuple #[.agg #[.int .i64 0, .int .i64 0, .int .i64 0, .int .i64 0, .bool false, .slice none 0 0, .slice none 0 0, .slice none 0 0, .int .i64 0, .int .i64 0], .bool false]) w :=
  ta_nil Try.underlying88 rfl _ _ (by kernel_rfl)
theorem th_ping (x : TypeId) (v : Value) (w : World) : (Instr.typeAssert (.iface 88 v) x 88 true).run Try.prog w = .ok (.tuple #[v, .bool true]) w :=
  ta_hit Try.underlying88 rfl _ _
theorem tm_ack (S x : TypeId) (v : Value) (w : World) (h : ¬ S = 89) : (Instr.typeAssert (.iface S v) x 89 true).run Try.prog w = .ok (.tuple #[.agg #[.int .i64 0, .int .i64 0, .int .i64 0, .int .i64 0, .bool false, .slice none 0 0, .slice none 0 0, .slice none 0 0], .bool false]) w :=
  ta_miss Try.underlying89 rfl _ _ _ (by kernel_rfl) h
theorem tn_ack (x : TypeId) (w : World) : (Instr.typeAssert .nilIface x 89 true).run Try.prog w = .ok (.tuple #[.agg #[.int .i64 0, .int .i64 0, .int .i64 0, .int .i64 0, .bool false, .slice none 0 0, .slice none 0 0, .slice none 0 0], .bool false]) w :=
  ta_nil Try.underlying89 rfl _ _ (by kernel_rfl)
theorem th_ack (x : TypeId) (v : Value) (w : World) : (Instr.typeAssert (.iface 89 v) x 89 true).run Try.prog w = .ok (.tuple #[v, .bool true]) w :=
  ta_hit Try.underlying89 rfl _ _
theorem tm_reset (S x : TypeId) (v : Value) (w : World) (h : ¬ S = 91) : (Instr.typeAssert (.iface S v) x 91 true).run Try.prog w = .ok (.tuple #[.agg #[.int .i64 0, .int .i64 0, .int .i64 0, .int .i64 0, .bool false, .slice none 0 0, .slice none 0 0, .slice none 0 0, .int .i64 0, .int .i64 0], .bool false]) w :=
  ta_miss Try.underlying91 rfl _ _ _ (by kernel_rfl) h
theorem tn_reset (x : TypeId) (w : World) : (Instr.typeAssert .nilIface x 91 true).run Try.prog w = .ok (.tuple #[.agg #[.int .i64 0, .int .i64 0, .int .i64 0, .int .i64 0, .bool false, .slice none 0 0, .slice none 0 0, .slice none 0 0, .int .i64 0, .int .i64 0], .bool false]) w :=
  ta_nil Try.underlying91 rfl _ _ (by kernel_rfl)
theorem th_reset (x : TypeId) (v : Value) (w : World) : (Instr.typeAssert (.iface 91 v) x 91 true).run Try.prog w = .ok (.tuple #[v, .bool true]) w :=
  ta_hit Try.underlying91 rfl _ _
theorem tm_stop (S x : TypeId) (v : Value) (w : World) (h : ¬ S = 92) : (Instr.typeAssert (.iface S v) x 92 true).run Try.prog w = .ok (.tuple #[.agg #[.int .i64 0, .int .i64 0, .int .i64 0, .int .i64 0, .bool false, .slice none 0 0, .slice none 0 0, .slice none 0 0, .int .i64 0, .int .i64 0], .bool false]) w :=
  ta_miss Try.underlying92 rfl _ _ _ (by kernel_rfl) h
theorem tn_stop (x : TypeId) (w : World) : (Instr.typeAssert .nilIface x 92 true).run Try.prog w = .ok (.tuple #[.agg #[.int .i64 0, .int .i64 0, .int .i64 0, .int .i64 0, .bool false, .slice none 0 0, .slice none 0 0, .slice none 0 0, .int .i64 0, .int .i64 0], .bool false]) w :=
  ta_nil Try.underlying92 rfl _ _ (by kernel_rfl)
theorem th_stop (x : TypeId) (v : Value) (w : World) : (Instr.typeAssert (.iface 92 v) x 92 true).run Try.prog w = .ok (.tuple #[v, .bool true]) w :=
  ta_hit Try.underlying92 rfl _ _
theorem tm_crypto (S x : TypeId) (v : Value) (w : World) (h : ¬ S = 94) : (Instr.typeAssert (.iface S v) x 94 true).run Try.prog w = .ok (.tuple #[.agg #[.int .i64 0, .int .i64 0, .int .i64 0, .int .i64 0, .bool false, .slice none 0 0, .slice none 0 0, .slice none 0 0, .int .i64 0, .int .i64 0], .bool false]) w :=
  ta_miss Try.underlying94 rfl _ _ _ (by kernel_rfl) h
theorem tn_crypto (x : TypeId) (w : World) : (Instr.typeAssert .nilIface x 94 true).run Try.prog w = .ok (.tuple #[.agg #[.int .i64 0, .int .i64 0, .int .i64 0, .int .i64 0, .bool false, .slice none 0 0, .slice none 0 0, .slice none 0 0, .int .i64 0, .int .i64 0], .bool false]) w :=
  ta_nil Try.underlying94 rfl _ _ (by kernel_rfl)
theorem th_crypto (x : TypeId) (v : Value) (w : World) : (Instr.typeAssert (.iface 94 v) x 94 true).run Try.prog w = .ok (.tuple #[v, .bool true]) w :=
  ta_hit Try.underlying94 rfl _ _
theorem tm_newToken (S x : TypeId) (v : Value) (w : World) (h : ¬ S = 96) : (Instr.typeAssert (.iface S v) x 96 true).run Try.prog w = .ok (.tuple #[.agg #[.int .i64 0, .int .i64 0, .int .i64 0, .int .i64 0, .bool false, .slice none 0 0, .slice none 0 0, .slice none 0 0, .int .i64 0, .int .i64 0], .bool false]) w :=
  ta_miss Try.underlying96 rfl _ _ _ (by kernel_rfl) h
theorem tn_newToken (x : TypeId) (w : World) : (Instr.typeAssert .nilIface x 96 true).run Try.prog w = .ok (.tuple #[.agg #[.int .i64 0, .int .i64 0, .int .i64 0, .int .i64 0, .bool false, .slice none 0 0, .slice none 0 0, .slice none 0 0, .int .i64 0, .int .i64 0], .bool false]) w :=
  ta_nil Try.underlying96 rfl _ _ (by kernel_rfl)
theorem th_newToken (x : TypeId) (v : Value) (w : World) : (Instr.typeAssert (.iface 96 v) x 96 true).run Try.prog w = .ok (.tuple #[v, .bool true]) w :=
  ta_hit Try.underlying96 rfl _ _
theorem tm_maxData (S x : TypeId) (v : Value) (w : World) (h : ¬ S = 99) : (Instr.typeAssert (.iface S v) x 99 true).run Try.prog w = .ok (.tuple #[.agg #[.int .i64 0, .int .i64 0, .int .i64 0, .int .i64 0, .bool false, .slice none 0 0, .slice none 0 0, .slice none 0 0, .int .i64 0, .int .i64 0], .bool false]) w :=
  ta_miss Try.underlying99 rfl _ _ _ (by kernel_rfl) h
theorem tn_maxData (x : TypeId) (w : World) : (Instr.typeAssert .nilIface x 99 true).run Try.prog w = .ok (.tuple #[.agg #[.int .i64 0, .int .i64 0, .int .i64 0, .int .i64 0, .bool false, .slice none 0 0, .slice none 0 0, .slice none 0 0, .int .i64 0, .int .i64 0], .bool false]) w :=
  ta_nil Try.underlying99 rfl _ _ (by kernel_rfl)
theorem th_maxData (x : TypeId) (v : Value) (w : World) : (Instr.typeAssert (.iface 99 v) x 99 true).run Try.prog w = .ok (.tuple #[v, .bool true]) w :=
  ta_hit Try.underlying99 rfl _ _
theorem tm_maxStreamData (S x : TypeId) (v : Value) (w : World) (h : ¬ S = 100) : (Instr.typeAssert (.iface S v) x 100 true).run Try.prog w = .ok (.tuple #[.agg #[.int .i64 0, .int .i64 0, .int .i64 0, .int .i64 0, .bool false, .slice none 0 0, .slice none 0 0, .slice none 0 0, .int .i64 0, .int .i64 0], .bool false]) w :=
  ta_miss Try.underlying100 rfl _ _ _ (by kernel_rfl) h
theorem tn_maxStreamData (x : TypeId) (w : World) : (Instr.typeAssert .nilIface x 100 true).run Try.prog w = .ok (.tuple #[.agg #[.int .i64 0, .int .i64 0, .int .i64 0, .int .i64 0, .bool false, .slice none 0 0, .slice none 0 0, .slice none 0 0, .int .i64 0, .int .i64 0], .bool false]) w :=
  ta_nil Try.underlying100 rfl _ _ (by kernel_rfl)
theorem th_maxStreamData (x : TypeId) (v : Value) (w : World) : (Instr.typeAssert (.iface 100 v) x 100 true).run Try.prog w = .ok (.tuple #[v, .bool true]) w :=
  ta_hit Try.underlying100 rfl _ _
theorem tm_maxStreams (S x : TypeId) (v : Value) (w : World) (h : ¬ S = 102) : (Instr.typeAssert (.iface S v) x 102 true).run Try.prog w = .ok (.tuple #[.agg #[.int .i64 0, .int .i64 0, .int .i64 0, .int .i64 0, .bool false, .slice none 0 0, .slice none 0 0, .slice none 0 0, .int .i64 0, .int .i64 0], .bool false]) w :=
  ta_miss Try.underlying102 rfl _ _ _ (by kernel_rfl) h
theorem tn_maxStreams (x : TypeId) (w : World) : (Instr.typeAssert .nilIface x 102 true).run Try.prog w = .ok (.tuple #[.agg #[.int .i64 0, .int .i64 0, .int .i64 0, .int .i64 0, .bool false, .slice none 0 0, .slice none 0 0, .slice none 0 0, .int .i64 0, .int .i64 0], .bool false]) w :=
  ta_nil Try.underlying102 rfl _ _ (by kernel_rfl)
theorem th_maxStreams (x : TypeId) (v : Value) (w : World) : (Instr.typeAssert (.iface 102 v) x 102 true).run Try.prog w = .ok (.tuple #[v, .bool true]) w :=
  ta_hit Try.underlying102 rfl _ _
theorem tm_dataBlocked (S x : TypeId) (v : Value) (w : World) (h : ¬ S = 103) : (Instr.typeAssert (.iface S v) x 103 true).run Try.prog w = .ok (.tuple #[.agg #[.int .i64 0, .int .i64 0, .int .i64 0, .int .i64 0, .bool false, .slice none 0 0, .slice none 0 0, .slice none 0 0, .int .i64 0, .int .i64 0], .bool false]) w :=
  ta_miss Try.underlying103 rfl _ _ _ (by kernel_rfl) h
theorem tn_dataBlocked (x : TypeId) (w : World) : (Instr.typeAssert .nilIface x 103 true).run Try.prog w = .ok (.tuple #[.agg #[.int .i64 0, .int .i64 0, .int .i64 0, .int .i64 0, .bool false, .slice none 0 0, .slice none 0 0, .slice none 0 0, .int .i64 0, .int .i64 0], .bool false]) w :=
  ta_nil Try.underlying103 rfl _ _ (by kernel_rfl)
theorem th_dataBlocked (x : TypeId) (v : Value) (w : World) : (Instr.typeAssert (.iface 103 v) x 103 true).run Try.prog w = .ok (.tuple #[v, .bool true]) w :=
  ta_hit Try.underlying103 rfl _ _
theorem tm_streamBlocked (S x : TypeId) (v : Value) (w : World) (h : ¬ S = 104) : (Instr.typeAssert (.iface S v) x 104 true).run Try.prog w = .ok (.tuple #[.agg #[.int .i64 0, .int .i64 0, .int .i64 0, .int .i64 0, .bool false, .slice none 0 0, .slice none 0 0, .slice none 0 0, .int .i64 0, .int .i64 0], .bool false]) w :=
  ta_miss Try.underlying104 rfl _ _ _ (by kernel_rfl) h
theorem tn_streamBlocked (x : TypeId) (w : World) : (Instr.typeAssert .nilIface x 104 true).run Try.prog w = .ok (.tuple #[.agg #[.int .i64 0, .int .i64 0, .int .i64 0, .int .i64 0, .bool false, .slice none 0 0, .slice none 0 0, .slice none 0 0, .int .i64 0, .int .i64 0], .bool false]) w :=
  ta_nil Try.underlying104 rfl _ _ (by kernel_rfl)
theorem th_streamBlocked (x : TypeId) (v : Value) (w : World) : (Instr.typeAssert (.iface 104 v) x 104 true).run Try.prog w = .ok (.tuple #[v, .bool true]) w :=
  ta_hit Try.underlying104 rfl _ _
theorem tm_streamsBlocked (S x : TypeId) (v : Value) (w : World) (h : ¬ S = 105) : (Instr.typeAssert (.iface S v) x 105 true).run Try.prog w = .ok (.tuple #[.agg #[.int .i64 0, .int .i64 0, .int .i64 0, .int .i64 0, .bool false, .slice none 0 0, .slice none 0 0, .slice none 0 0, .int .i64 0, .int .i64 0], .bool false]) w :=
  ta_miss Try.underlying105 rfl _ _ _ (by kernel_rfl) h
theorem tn_streamsBlocked (x : TypeId) (w : World) : (Instr.typeAssert .nilIface x 105 true).run Try.prog w = .ok (.tuple #[.agg #[.int .i64 0, .int .i64 0, .int .i64 0, .int .i64 0, .bool false, .slice none 0 0, .slice none 0 0, .slice none 0 0, .int .i64 0, .int .i64 0], .bool false]) w :=
  ta_nil Try.underlying105 rfl _ _ (by kernel_rfl)
theorem th_streamsBlocked (x : TypeId) (v : Value) (w : World) : (Instr.typeAssert (.iface 105 v) x 105 true).run Try.prog w = .ok (.tuple #[v, .bool true]) w :=
  ta_hit Try.underlying105 rfl _ _
theorem tm_newId (S x : TypeId) (v : Value) (w : World) (h : ¬ S = 106) : (Instr.typeAssert (.iface S v) x 106 true).run Try.prog w = .ok (.tuple #[.agg #[.int .i64 0, .int .i64 0, .int .i64 0, .int .i64 0, .bool false, .slice none 0 0, .slice none 0 0, .slice none 0 0, .int .i64 0, .int .i64 0], .bool false]) w :=
  ta_miss Try.underlying106 rfl _ _ _ (by kernel_rfl) h
theorem tn_newId (x : TypeId) (w : World) : (Instr.typeAssert .nilIface x 106 true).run Try.prog w = .ok (.tuple #[.agg #[.int .i64 0, .int .i64 0, .int .i64 0, .int .i64 0, .bool false, .slice none 0 0, .slice none 0 0, .slice none 0 0, .int .i64 0, .int .i64 0], .bool false]) w :=
  ta_nil Try.underlying106 rfl _ _ (by kernel_rfl)
theorem th_newId (x : TypeId) (v : Value) (w : World) : (Instr.typeAssert (.iface 106 v) x 106 true).run Try.prog w = .ok (.tuple #[v, .bool true]) w :=
  ta_hit Try.underlying106 rfl _ _
theorem tm_retireId (S x : TypeId) (v : Value) (w : World) (h : ¬ S = 107) : (Instr.typeAssert (.iface S v) x 107 true).run Try.prog w = .ok (.tuple #[.agg #[.int .i64 0, .int .i64 0, .int .i64 0, .int .i64 0, .bool false, .slice none 0 0, .slice none 0 0, .slice none 0 0, .int .i64 0, .int .i64 0], .bool false]) w :=
  ta_miss Try.underlying107 rfl _ _ _ (by kernel_rfl) h
theorem tn_retireId (x : TypeId) (w : World) : (Instr.typeAssert .nilIface x 107 true).run Try.prog w = .ok (.tuple #[.agg #[.int .i64 0, .int .i64 0, .int .i64 0, .int .i64 0, .bool false, .slice none 0 0, .slice none 0 0, .slice none 0 0, .int .i64 0, .int .i64 0], .bool false]) w :=
  ta_nil Try.underlying107 rfl _ _ (by kernel_rfl)
theorem th_retireId (x : TypeId) (v : Value) (w : World) : (Instr.typeAssert (.iface 107 v) x 107 true).run Try.prog w = .ok (.tuple #[v, .bool true]) w :=
  ta_hit Try.underlying107 rfl _ _
theorem tm_challenge (S x : TypeId) (v : Value) (w : World) (h : ¬ S = 112) : (Instr.typeAssert (.iface S v) x 112 true).run Try.prog w = .ok (.tuple #[.agg #[.int .i64 0, .int .i64 0, .int .i64 0, .int .i64 0, .bool false, .slice none 0 0, .slice none 0 0, .slice none 0 0, .int .i64 0, .int .i64 0], .bool false]) w :=
  ta_miss Try.underlying112 rfl _ _ _ (by kernel_rfl) h
theorem tn_challenge (x : TypeId) (w : World) : (Instr.typeAssert .nilIface x 112 true).run Try.prog w = .ok (.tuple #[.agg #[.int .i64 0, .int .i64 0, .int .i64 0, .int .i64 0, .bool false, .slice none 0 0, .slice none 0 0, .slice none 0 0, .int .i64 0, .int .i64 0], .bool false]) w :=
  ta_nil Try.underlying112 rfl _ _ (by kernel_rfl)
theorem th_challenge (x : TypeId) (v : Value) (w : World) : (Instr.typeAssert (.iface 112 v) x 112 true).run Try.prog w = .ok (.tuple #[v, .bool true]) w :=
  ta_hit Try.underlying112 rfl _ _
theorem tm_response (S x : TypeId) (v : Value) (w : World) (h : ¬ S = 113) : (Instr.typeAssert (.iface S v) x 113 true).run Try.prog w = .ok (.tuple #[.agg #[.int .i64 0, .int .i64 0, .int .i64 0, .int .i64 0, .bool false, .slice none 0 0, .slice none 0 0, .slice none 0 0, .int .i64 0, .int .i64 0], .bool false]) w :=
  ta_miss Try.underlying113 rfl _ _ _ (by kernel_rfl) h
theorem tn_response (x : TypeId) (w : World) : (Instr.typeAssert .nilIface x 113 true).run Try.prog w = .ok (.tuple #[.agg #[.int .i64 0, .int .i64 0, .int .i64 0, .int .i64 0, .bool false, .slice none 0 0, .slice none 0 0, .slice none 0 0, .int .i64 0, .int .i64 0], .bool false]) w :=
  ta_nil Try.underlying113 rfl _ _ (by kernel_rfl)
theorem th_response (x : TypeId) (v : Value) (w : World) : (Instr.typeAssert (.iface 113 v) x 113 true).run Try.prog w = .ok (.tuple #[v, .bool true]) w :=
  ta_hit Try.underlying113 rfl _ _
theorem tm_close (S x : TypeId) (v : Value) (w : World) (h : ¬ S = 114) : (Instr.typeAssert (.iface S v) x 114 true).run Try.prog w = .ok (.tuple #[.agg #[.int .i64 0, .int .i64 0, .int .i64 0, .int .i64 0, .bool false, .slice none 0 0, .slice none 0 0, .slice none 0 0, .int .i64 0, .int .i64 0], .bool false]) w :=
  ta_miss Try.underlying114 rfl _ _ _ (by kernel_rfl) h
theorem tn_close (x : TypeId) (w : World) : (Instr.typeAssert .nilIface x 114 true).run Try.prog w = .ok (.tuple #[.agg #[.int .i64 0, .int .i64 0, .int .i64 0, .int .i64 0, .bool false, .slice none 0 0, .slice none 0 0, .slice none 0 0, .int .i64 0, .int .i64 0], .bool false]) w :=
  ta_nil Try.underlying114 rfl _ _ (by kernel_rfl)
theorem th_close (x : TypeId) (v : Value) (w : World) : (Instr.typeAssert (.iface 114 v) x 114 true).run Try.prog w = .ok (.tuple #[v, .bool true]) w :=
  ta_hit Try.underlying114 rfl _ _
theorem tm_appClose (S x : TypeId) (v : Value) (w : World) (h : ¬ S = 115) : (Instr.typeAssert (.iface S v) x 115 true).run Try.prog w = .ok (.tuple #[.agg #[.int .i64 0, .int .i64 0, .int .i64 0, .int .i64 0, .bool false, .slice none 0 0, .slice none 0 0, .slice none 0 0, .int .i64 0, .int .i64 0], .bool false]) w :=
  ta_miss Try.underlying115 rfl _ _ _ (by kernel_rfl) h
theorem tn_appClose (x : TypeId) (w : World) : (Instr.typeAssert .nilIface x 115 true).run Try.prog w = .ok (.tuple #[.agg #[.int .i64 0, .int .i64 0, .int .i64 0, .int .i64 0, .bool false, .slice none 0 0, .slice none 0 0, .slice none 0 0, .int .i64 0, .int .i64 0], .bool false]) w :=
  ta_nil Try.underlying115 rfl _ _ (by kernel_rfl)
theorem th_appClose (x : TypeId) (v : Value) (w : World) : (Instr.typeAssert (.iface 115 v) x 115 true).run Try.prog w = .ok (.tuple #[v, .bool true]) w :=
  ta_hit Try.underlying115 rfl _ _
theorem tm_done (S x : TypeId) (v : Value) (w : World) (h : ¬ S = 116) : (Instr.typeAssert (.iface S v) x 116 true).run Try.prog w = .ok (.tuple #[.agg #[.int .i64 0, .int .i64 0, .int .i64 0, .int .i64 0, .bool false, .slice none 0 0, .slice none 0 0, .slice none 0 0, .int .i64 0, .int .i64 0], .bool false]) w :=
  ta_miss Try.underlying116 rfl _ _ _ (by kernel_rfl) h
theorem tn_done (x : TypeId) (w : World) : (Instr.typeAssert .nilIface x 116 true).run Try.prog w = .ok (.tuple #[.agg #[.int .i64 0, .int .i64 0, .int .i64 0, .int .i64 0, .bool false, .slice none 0 0, .slice none 0 0, .slice none 0 0, .int .i64 0, .int .i64 0], .bool false]) w :=
  ta_nil Try.underlying116 rfl _ _ (by kernel_rfl)
theorem th_done (x : TypeId) (v : Value) (w : World) : (Instr.typeAssert (.iface 116 v) x 116 true).run Try.prog w = .ok (.tuple #[v, .bool true]) w :=
  ta_hit Try.underlying116 rfl _ _
theorem tm_datagram (S x : TypeId) (v : Value) (w : World) (h : ¬ S = 117) : (Instr.typeAssert (.iface S v) x 117 true).run Try.prog w = .ok (.tuple #[.agg #[.int .i64 0, .int .i64 0, .int .i64 0, .int .i64 0, .bool false, .slice none 0 0, .slice none 0 0, .slice none 0 0, .int .i64 0, .int .i64 0], .bool false]) w :=
  ta_miss Try.underlying117 rfl _ _ _ (by kernel_rfl) h
theorem tn_datagram (x : TypeId) (w : World) : (Instr.typeAssert .nilIface x 117 true).run Try.prog w = .ok (.tuple #[.agg #[.int .i64 0, .int .i64 0, .int .i64 0, .int .i64 0, .bool false, .slice none 0 0, .slice none 0 0, .slice none 0 0, .int .i64 0, .int .i64 0], .bool false]) w :=
  ta_nil Try.underlying117 rfl _ _ (by kernel_rfl)
theorem th_datagram (x : TypeId) (v : Value) (w : World) : (Instr.typeAssert (.iface 117 v) x 117 true).run Try.prog w = .ok (.tuple #[v, .bool true]) w :=
  ta_hit Try.underlying117 rfl _ _
theorem tm_stream (S x : TypeId) (v : Value) (w : World) (h : ¬ S = 97) : (Instr.typeAssert (.iface S v) x 97 true).run Try.prog w = .ok (.tuple #[.agg #[.int .i64 0, .int .i64 0, .int .i64 0, .int .i64 0, .bool false, .slice none 0 0, .slice none 0 0, .slice none 0 0, .int .i64 0, .int .i64 0], .bool false]) w :=
  ta_miss Try.underlying97 rfl _ _ _ (by kernel_rfl) h
theorem tn_stream (x : TypeId) (w : World) : (Instr.typeAssert .nilIface x 97 true).run Try.prog w = .ok (.tuple #[.agg #[.int .i64 0, .int .i64 0, .int .i64 0, .int .i64 0, .bool false, .slice none 0 0, .slice none 0 0, .slice none 0 0, .int .i64 0, .int .i64 0], .bool false]) w :=
  ta_nil Try.underlying97 rfl _ _ (by kernel_rfl)
theorem th_stream (x : TypeId) (v : Value) (w : World) : (Instr.typeAssert (.iface 97 v) x 97 true).run Try.prog w = .ok (.tuple #[v, .bool true]) w :=
  ta_hit Try.underlying97 rfl _ _
end Go.Proofs.Ytlbiaiohjohgiaa
