import Derived.Test.YtaodcahkkeobdaaBodyA
namespace Go.Proofs.Ytaodcahkkeobdaa
open Go.RowKit
set_option linter.unusedVariables false

theorem ta_miss {S T x : TypeId} {d : TypeDesc} (hu : Try.prog.underlying T = some d) (hd : (match d with | .interface _ => false | _ => true) = true) (z v : Value) (w : World) (hz : (zeroValue T).run Try.prog w = .ok z w) (h : ¬ S = T) :
    (Instr.typeAssert (.iface S v) x T true).run Try.prog w = .ok (.tuple #[z, .bool false]) w := by
  have hr := run_underlying hu w
  cases d <;> simp_all [Instr.typeAssert, go_sem]
theorem ta_nil {T x : TypeId} {d : TypeDesc} (hu : Try.prog.underlying T = some d) (hd : (match d with | .interface _ => false | _ => true) = true) (z : Value) (w : World) (hz : (zeroValue T).run Try.prog w = .ok z w) :
    (Instr.typeAssert .nilIface x T true).run Try.prog w = .ok (.tuple #[z, .bool false]) w := by
  have hr := run_underlying hu w
  cases d <;> simp_all [Instr.typeAssert, go_sem]
theorem ta_hit {T x : TypeId} {d : TypeDesc} (hu : Try.prog.underlying T = some d) (hd : (match d with | .interface _ => false | _ => true) = true) (v : Value) (w : World) :
    (Instr.typeAssert (.iface T v) x T true).run Try.prog w = .ok (.tuple #[v, .bool true]) w := by
  have hr := run_underlying hu w
  cases d <;> simp_all [Instr.typeAssert, go_sem]
theorem tm_padding (S x : TypeId) (v : Value) (w : World) (h : ¬ S = 98) : (Instr.typeAssert (.iface S v) x 98 true).run Try.prog w = .ok (.tuple #[.agg #[.int .i64 0, .int .i64 0, .int .i64 0, .int .i64 0, .bool false, .slice none 0 0, .slice none 0 0, .slice none 0 0], .bool false]) w :=
  ta_miss Try.underlying98 rfl _ _ _ (by kernel_rfl) h
theorem tn_padding (x : TypeId) (w : World) : (Instr.typeAssert .nilIface x 98 true).run Try.prog w = .ok (.tuple #[.agg #[.int .i64 0, .int .i64 0, .int .i64 0, .int .i64 0, .bool false, .slice none 0 0, .slice none 0 0, .slice none 0 0], .bool false]) w :=
  ta_nil Try.underlying98 rfl _ _ (by kernel_rfl)
theorem th_padding (x : TypeId) (v : Value) (w : World) : (Instr.typeAssert (.iface 98 v) x 98 true).run Try.prog w = .ok (.tuple #[v, .bool true]) w :=
  ta_hit Try.underlying98 rfl _ _
theorem tm_ping (S x : TypeId) (v : Value) (w : World) (h : ¬ S = 100) : (Instr.typeAssert (.iface S v) x 100 true).run Try.prog w = .ok (.tuple #[.agg #[.int .i64 0, .int .i64 0, .int .i64 0, .int .i64 0, .bool false, .slice none 0 0, .slice none 0 0, .slice none 0 0, .int .i64 0, .int .i64 0], .bool false]) w :=
  ta_miss Try.underlying100 rfl _ _ _ (by kernel_rfl) h
theorem tn_ping (x : TypeId) (w : World) : (Instr.typeAssert .nilIface x 100 true).run Try.prog w = .ok (.tuple #[.agg #[.int .i64 0, .int .i64 0, .int .i64 0, .int .i64 0, .bool false, .slice none 0 0, .slice none 0 0, .slice none 0 0, .int .i64 0, .int .i64 0], .bool false]) w :=
  ta_nil Try.underlying100 rfl _ _ (by kernel_rfl)
theorem th_ping (x : TypeId) (v : Value) (w : World) : (Instr.typeAssert (.iface 100 v) x 100 true).run Try.prog w = .ok (.tuple #[v, .bool true]) w :=
  ta_hit Try.underlying100 rfl _ _
theorem tm_ack (S x : TypeId) (v : Value) (w : World) (h : ¬ S = 101) : (Instr.typeAssert (.iface S v) x 101 true).run Try.prog w = .ok (.tuple #[.agg #[.int .i64 0, .int .i64 0, .int .i64 0, .int .i64 0, .bool false, .slice none 0 0, .slice none 0 0, .slice none 0 0], .bool false]) w :=
  ta_miss Try.underlying101 rfl _ _ _ (by kernel_rfl) h
theorem tn_ack (x : TypeId) (w : World) : (Instr.typeAssert .nilIface x 101 true).run Try.prog w = .ok (.tuple #[.agg #[.int .i64 0, .int .i64 0, .int .i64 0, .int .i64 0, .bool false, .slice none 0 0, .slice none 0 0, .slice none 0 0], .bool false]) w :=
  ta_nil Try.underlying101 rfl _ _ (by kernel_rfl)
theorem th_ack (x : TypeId) (v : Value) (w : World) : (Instr.typeAssert (.iface 101 v) x 101 true).run Try.prog w = .ok (.tuple #[v, .bool true]) w :=
  ta_hit Try.underlying101 rfl _ _
theorem tm_reset (S x : TypeId) (v : Value) (w : World) (h : ¬ S = 103) : (Instr.typeAssert (.iface S v) x 103 true).run Try.prog w = .ok (.tuple #[.agg #[.int .i64 0, .int .i64 0, .int .i64 0, .int .i64 0, .bool false, .slice none 0 0, .slice none 0 0, .slice none 0 0, .int .i64 0, .int .i64 0], .bool false]) w :=
  ta_miss Try.underlying103 rfl _ _ _ (by kernel_rfl) h
theorem tn_reset (x : TypeId) (w : World) : (Instr.typeAssert .nilIface x 103 true).run Try.prog w = .ok (.tuple #[.agg #[.int .i64 0, .int .i64 0, .int .i64 0, .int .i64 0, .bool false, .slice none 0 0, .slice none 0 0, .slice none 0 0, .int .i64 0, .int .i64 0], .bool false]) w :=
  ta_nil Try.underlying103 rfl _ _ (by kernel_rfl)
theorem th_reset (x : TypeId) (v : Value) (w : World) : (Instr.typeAssert (.iface 103 v) x 103 true).run Try.prog w = .ok (.tuple #[v, .bool true]) w :=
  ta_hit Try.underlying103 rfl _ _
theorem tm_stop (S x : TypeId) (v : Value) (w : World) (h : ¬ S = 104) : (Instr.typeAssert (.iface S v) x 104 true).run Try.prog w = .ok (.tuple #[.agg #[.int .i64 0, .int .i64 0, .int .i64 0, .int .i64 0, .bool false, .slice none 0 0, .slice none 0 0, .slice none 0 0, .int .i64 0, .int .i64 0], .bool false]) w :=
  ta_miss Try.underlying104 rfl _ _ _ (by kernel_rfl) h
theorem tn_stop (x : TypeId) (w : World) : (Instr.typeAssert .nilIface x 104 true).run Try.prog w = .ok (.tuple #[.agg #[.int .i64 0, .int .i64 0, .int .i64 0, .int .i64 0, .bool false, .slice none 0 0, .slice none 0 0, .slice none 0 0, .int .i64 0, .int .i64 0], .bool false]) w :=
  ta_nil Try.underlying104 rfl _ _ (by kernel_rfl)
theorem th_stop (x : TypeId) (v : Value) (w : World) : (Instr.typeAssert (.iface 104 v) x 104 true).run Try.prog w = .ok (.tuple #[v, .bool true]) w :=
  ta_hit Try.underlying104 rfl _ _
theorem tm_crypto (S x : TypeId) (v : Value) (w : World) (h : ¬ S = 106) : (Instr.typeAssert (.iface S v) x 106 true).run Try.prog w = .ok (.tuple #[.agg #[.int .i64 0, .int .i64 0, .int .i64 0, .int .i64 0, .bool false, .slice none 0 0, .slice none 0 0, .slice none 0 0, .int .i64 0, .int .i64 0], .bool false]) w :=
  ta_miss Try.underlying106 rfl _ _ _ (by kernel_rfl) h
theorem tn_crypto (x : TypeId) (w : World) : (Instr.typeAssert .nilIface x 106 true).run Try.prog w = .ok (.tuple #[.agg #[.int .i64 0, .int .i64 0, .int .i64 0, .int .i64 0, .bool false, .slice none 0 0, .slice none 0 0, .slice none 0 0, .int .i64 0, .int .i64 0], .bool false]) w :=
  ta_nil Try.underlying106 rfl _ _ (by kernel_rfl)
theorem th_crypto (x : TypeId) (v : Value) (w : World) : (Instr.typeAssert (.iface 106 v) x 106 true).run Try.prog w = .ok (.tuple #[v, .bool true]) w :=
  ta_hit Try.underlying106 rfl _ _
theorem tm_newToken (S x : TypeId) (v : Value) (w : World) (h : ¬ S = 108) : (Instr.typeAssert (.iface S v) x 108 true).run Try.prog w = .ok (.tuple #[.agg #[.int .i64 0, .int .i64 0, .int .i64 0, .int .i64 0, .bool false, .slice none 0 0, .slice none 0 0, .slice none 0 0, .int .i64 0, .int .i64 0], .bool false]) w :=
  ta_miss Try.underlying108 rfl _ _ _ (by kernel_rfl) h
theorem tn_newToken (x : TypeId) (w : World) : (Instr.typeAssert .nilIface x 108 true).run Try.prog w = .ok (.tuple #[.agg #[.int .i64 0, .int .i64 0, .int .i64 0, .int .i64 0, .bool false, .slice none 0 0, .slice none 0 0, .slice none 0 0, .int .i64 0, .int .i64 0], .bool false]) w :=
  ta_nil Try.underlying108 rfl _ _ (by kernel_rfl)
theorem th_newToken (x : TypeId) (v : Value) (w : World) : (Instr.typeAssert (.iface 108 v) x 108 true).run Try.prog w = .ok (.tuple #[v, .bool true]) w :=
  ta_hit Try.underlying108 rfl _ _
theorem tm_maxData (S x : TypeId) (v : Value) (w : World) (h : ¬ S = 111) : (Instr.typeAssert (.iface S v) x 111 true).run Try.prog w = .ok (.tuple #[.agg #[.int .i64 0, .int .i64 0, .int .i64 0, .int .i64 0, .bool false, .slice none 0 0, .slice none 0 0, .slice none 0 0, .int .i64 0, .int .i64 0], .bool false]) w :=
  ta_miss Try.underlying111 rfl _ _ _ (by kernel_rfl) h
theorem tn_maxData (x : TypeId) (w : World) : (Instr.typeAssert .nilIface x 111 true).run Try.prog w = .ok (.tuple #[.agg #[.int .i64 0, .int .i64 0, .int .i64 0, .int .i64 0, .bool false, .slice none 0 0, .slice none 0 0, .slice none 0 0, .int .i64 0, .int .i64 0], .bool false]) w :=
  ta_nil Try.underlying111 rfl _ _ (by kernel_rfl)
theorem th_maxData (x : TypeId) (v : Value) (w : World) : (Instr.typeAssert (.iface 111 v) x 111 true).run Try.prog w = .ok (.tuple #[v, .bool true]) w :=
  ta_hit Try.underlying111 rfl _ _
theorem tm_maxStreamData (S x : TypeId) (v : Value) (w : World) (h : ¬ S = 112) : (Instr.typeAssert (.iface S v) x 112 true).run Try.prog w = .ok (.tuple #[.agg #[.int .i64 0, .int .i64 0, .int .i64 0, .int .i64 0, .bool false, .slice none 0 0, .slice none 0 0, .slice none 0 0, .int .i64 0, .int .i64 0], .bool false]) w :=
  ta_miss Try.underlying112 rfl _ _ _ (by kernel_rfl) h
theorem tn_maxStreamData (x : TypeId) (w : World) : (Instr.typeAssert .nilIface x 112 true).run Try.prog w = .ok (.tuple #[.agg #[.int .i64 0, .int .i64 0, .int .i64 0, .int .i64 0, .bool false, .slice none 0 0, .slice none 0 0, .slice none 0 0, .int .i64 0, .int .i64 0], .bool false]) w :=
  ta_nil Try.underlying112 rfl _ _ (by kernel_rfl)
theorem th_maxStreamData (x : TypeId) (v : Value) (w : World) : (Instr.typeAssert (.iface 112 v) x 112 true).run Try.prog w = .ok (.tuple #[v, .bool true]) w :=
  ta_hit Try.underlying112 rfl _ _
theorem tm_maxStreams (S x : TypeId) (v : Value) (w : World) (h : ¬ S = 114) : (Instr.typeAssert (.iface S v) x 114 true).run Try.prog w = .ok (.tuple #[.agg #[.int .i64 0, .int .i64 0, .int .i64 0, .int .i64 0, .bool false, .slice none 0 0, .slice none 0 0, .slice none 0 0, .int .i64 0, .int .i64 0], .bool false]) w :=
  ta_miss Try.underlying114 rfl _ _ _ (by kernel_rfl) h
theorem tn_maxStreams (x : TypeId) (w : World) : (Instr.typeAssert .nilIface x 114 true).run Try.prog w = .ok (.tuple #[.agg #[.int .i64 0, .int .i64 0, .int .i64 0, .int .i64 0, .bool false, .slice none 0 0, .slice none 0 0, .slice none 0 0, .int .i64 0, .int .i64 0], .bool false]) w :=
  ta_nil Try.underlying114 rfl _ _ (by kernel_rfl)
theorem th_maxStreams (x : TypeId) (v : Value) (w : World) : (Instr.typeAssert (.iface 114 v) x 114 true).run Try.prog w = .ok (.tuple #[v, .bool true]) w :=
  ta_hit Try.underlying114 rfl _ _
theorem tm_dataBlocked (S x : TypeId) (v : Value) (w : World) (h : ¬ S = 115) : (Instr.typeAssert (.iface S v) x 115 true).run Try.prog w = .ok (.tuple #[.agg #[.int .i64 0, .int .i64 0, .int .i64 0, .int .i64 0, .bool false, .slice none 0 0, .slice none 0 0, .slice none 0 0, .int .i64 0, .int .i64 0], .bool false]) w :=
  ta_miss Try.underlying115 rfl _ _ _ (by kernel_rfl) h
theorem tn_dataBlocked (x : TypeId) (w : World) : (Instr.typeAssert .nilIface x 115 true).run Try.prog w = .ok (.tuple #[.agg #[.int .i64 0, .int .i64 0, .int .i64 0, .int .i64 0, .bool false, .slice none 0 0, .slice none 0 0, .slice none 0 0, .int .i64 0, .int .i64 0], .bool false]) w :=
  ta_nil Try.underlying115 rfl _ _ (by kernel_rfl)
theorem th_dataBlocked (x : TypeId) (v : Value) (w : World) : (Instr.typeAssert (.iface 115 v) x 115 true).run Try.prog w = .ok (.tuple #[v, .bool true]) w :=
  ta_hit Try.underlying115 rfl _ _
theorem tm_streamBlocked (S x : TypeId) (v : Value) (w : World) (h : ¬ S = 116) : (Instr.typeAssert (.iface S v) x 116 true).run Try.prog w = .ok (.tuple #[.agg #[.int .i64 0, .int .i64 0, .int .i64 0, .int .i64 0, .bool false, .slice none 0 0, .slice none 0 0, .slice none 0 0, .int .i64 0, .int .i64 0], .bool false]) w :=
  ta_miss Try.underlying116 rfl _ _ _ (by kernel_rfl) h
theorem tn_streamBlocked (x : TypeId) (w : World) : (Instr.typeAssert .nilIface x 116 true).run Try.prog w = .ok (.tuple #[.agg #[.int .i64 0, .int .i64 0, .int .i64 0, .int .i64 0, .bool false, .slice none 0 0, .slice none 0 0, .slice none 0 0, .int .i64 0, .int .i64 0], .bool false]) w :=
  ta_nil Try.underlying116 rfl _ _ (by kernel_rfl)
theorem th_streamBlocked (x : TypeId) (v : Value) (w : World) : (Instr.typeAssert (.iface 116 v) x 116 true).run Try.prog w = .ok (.tuple #[v, .bool true]) w :=
  ta_hit Try.underlying116 rfl _ _
theorem tm_streamsBlocked (S x : TypeId) (v : Value) (w : World) (h : ¬ S = 117) : (Instr.typeAssert (.iface S v) x 117 true).run Try.prog w = .ok (.tuple #[.agg #[.int .i64 0, .int .i64 0, .int .i64 0, .int .i64 0, .bool false, .slice none 0 0, .slice none 0 0, .slice none 0 0, .int .i64 0, .int .i64 0], .bool false]) w :=
  ta_miss Try.underlying117 rfl _ _ _ (by kernel_rfl) h
theorem tn_streamsBlocked (x : TypeId) (w : World) : (Instr.typeAssert .nilIface x 117 true).run Try.prog w = .ok (.tuple #[.agg #[.int .i64 0, .int .i64 0, .int .i64 0, .int .i64 0, .bool false, .slice none 0 0, .slice none 0 0, .slice none 0 0, .int .i64 0, .int .i64 0], .bool false]) w :=
  ta_nil Try.underlying117 rfl _ _ (by kernel_rfl)
theorem th_streamsBlocked (x : TypeId) (v : Value) (w : World) : (Instr.typeAssert (.iface 117 v) x 117 true).run Try.prog w = .ok (.tuple #[v, .bool true]) w :=
  ta_hit Try.underlying117 rfl _ _
theorem tm_newId (S x : TypeId) (v : Value) (w : World) (h : ¬ S = 118) : (Instr.typeAssert (.iface S v) x 118 true).run Try.prog w = .ok (.tuple #[.agg #[.int .i64 0, .int .i64 0, .int .i64 0, .int .i64 0, .bool false, .slice none 0 0, .slice none 0 0, .slice none 0 0, .int .i64 0, .int .i64 0], .bool false]) w :=
  ta_miss Try.underlying118 rfl _ _ _ (by kernel_rfl) h
theorem tn_newId (x : TypeId) (w : World) : (Instr.typeAssert .nilIface x 118 true).run Try.prog w = .ok (.tuple #[.agg #[.int .i64 0, .int .i64 0, .int .i64 0, .int .i64 0, .bool false, .slice none 0 0, .slice none 0 0, .slice none 0 0, .int .i64 0, .int .i64 0], .bool false]) w :=
  ta_nil Try.underlying118 rfl _ _ (by kernel_rfl)
theorem th_newId (x : TypeId) (v : Value) (w : World) : (Instr.typeAssert (.iface 118 v) x 118 true).run Try.prog w = .ok (.tuple #[v, .bool true]) w :=
  ta_hit Try.underlying118 rfl _ _
theorem tm_retireId (S x : TypeId) (v : Value) (w : World) (h : ¬ S = 119) : (Instr.typeAssert (.iface S v) x 119 true).run Try.prog w = .ok (.tuple #[.agg #[.int .i64 0, .int .i64 0, .int .i64 0, .int .i64 0, .bool false, .slice none 0 0, .slice none 0 0, .slice none 0 0, .int .i64 0, .int .i64 0], .bool false]) w :=
  ta_miss Try.underlying119 rfl _ _ _ (by kernel_rfl) h
theorem tn_retireId (x : TypeId) (w : World) : (Instr.typeAssert .nilIface x 119 true).run Try.prog w = .ok (.tuple #[.agg #[.int .i64 0, .int .i64 0, .int .i64 0, .int .i64 0, .bool false, .slice none 0 0, .slice none 0 0, .slice none 0 0, .int .i64 0, .int .i64 0], .bool false]) w :=
  ta_nil Try.underlying119 rfl _ _ (by kernel_rfl)
theorem th_retireId (x : TypeId) (v : Value) (w : World) : (Instr.typeAssert (.iface 119 v) x 119 true).run Try.prog w = .ok (.tuple #[v, .bool true]) w :=
  ta_hit Try.underlying119 rfl _ _
theorem tm_challenge (S x : TypeId) (v : Value) (w : World) (h : ¬ S = 124) : (Instr.typeAssert (.iface S v) x 124 true).run Try.prog w = .ok (.tuple #[.agg #[.int .i64 0, .int .i64 0, .int .i64 0, .int .i64 0, .bool false, .slice none 0 0, .slice none 0 0, .slice none 0 0, .int .i64 0, .int .i64 0], .bool false]) w :=
  ta_miss Try.underlying124 rfl _ _ _ (by kernel_rfl) h
theorem tn_challenge (x : TypeId) (w : World) : (Instr.typeAssert .nilIface x 124 true).run Try.prog w = .ok (.tuple #[.agg #[.int .i64 0, .int .i64 0, .int .i64 0, .int .i64 0, .bool false, .slice none 0 0, .slice none 0 0, .slice none 0 0, .int .i64 0, .int .i64 0], .bool false]) w :=
  ta_nil Try.underlying124 rfl _ _ (by kernel_rfl)
theorem th_challenge (x : TypeId) (v : Value) (w : World) : (Instr.typeAssert (.iface 124 v) x 124 true).run Try.prog w = .ok (.tuple #[v, .bool true]) w :=
  ta_hit Try.underlying124 rfl _ _
theorem tm_response (S x : TypeId) (v : Value) (w : World) (h : ¬ S = 125) : (Instr.typeAssert (.iface S v) x 125 true).run Try.prog w = .ok (.tuple #[.agg #[.int .i64 0, .int .i64 0, .int .i64 0, .int .i64 0, .bool false, .slice none 0 0, .slice none 0 0, .slice none 0 0, .int .i64 0, .int .i64 0], .bool false]) w :=
  ta_miss Try.underlying125 rfl _ _ _ (by kernel_rfl) h
theorem tn_response (x : TypeId) (w : World) : (Instr.typeAssert .nilIface x 125 true).run Try.prog w = .ok (.tuple #[.agg #[.int .i64 0, .int .i64 0, .int .i64 0, .int .i64 0, .bool false, .slice none 0 0, .slice none 0 0, .slice none 0 0, .int .i64 0, .int .i64 0], .bool false]) w :=
  ta_nil Try.underlying125 rfl _ _ (by kernel_rfl)
theorem th_response (x : TypeId) (v : Value) (w : World) : (Instr.typeAssert (.iface 125 v) x 125 true).run Try.prog w = .ok (.tuple #[v, .bool true]) w :=
  ta_hit Try.underlying125 rfl _ _
theorem tm_close (S x : TypeId) (v : Value) (w : World) (h : ¬ S = 126) : (Instr.typeAssert (.iface S v) x 126 true).run Try.prog w = .ok (.tuple #[.agg #[.int .i64 0, .int .i64 0, .int .i64 0, .int .i64 0, .bool false, .slice none 0 0, .slice none 0 0, .slice none 0 0, .int .i64 0, .int .i64 0], .bool false]) w :=
  ta_miss Try.underlying126 rfl _ _ _ (by kernel_rfl) h
theorem tn_close (x : TypeId) (w : World) : (Instr.typeAssert .nilIface x 126 true).run Try.prog w = .ok (.tuple #[.agg #[.int .i64 0, .int .i64 0, .int .i64 0, .int .i64 0, .bool false, .slice none 0 0, .slice none 0 0, .slice none 0 0, .int .i64 0, .int .i64 0], .bool false]) w :=
  ta_nil Try.underlying126 rfl _ _ (by kernel_rfl)
theorem th_close (x : TypeId) (v : Value) (w : World) : (Instr.typeAssert (.iface 126 v) x 126 true).run Try.prog w = .ok (.tuple #[v, .bool true]) w :=
  ta_hit Try.underlying126 rfl _ _
theorem tm_appClose (S x : TypeId) (v : Value) (w : World) (h : ¬ S = 127) : (Instr.typeAssert (.iface S v) x 127 true).run Try.prog w = .ok (.tuple #[.agg #[.int .i64 0, .int .i64 0, .int .i64 0, .int .i64 0, .bool false, .slice none 0 0, .slice none 0 0, .slice none 0 0, .int .i64 0, .int .i64 0], .bool false]) w :=
  ta_miss Try.underlying127 rfl _ _ _ (by kernel_rfl) h
theorem tn_appClose (x : TypeId) (w : World) : (Instr.typeAssert .nilIface x 127 true).run Try.prog w = .ok (.tuple #[.agg #[.int .i64 0, .int .i64 0, .int .i64 0, .int .i64 0, .bool false, .slice none 0 0, .slice none 0 0, .slice none 0 0, .int .i64 0, .int .i64 0], .bool false]) w :=
  ta_nil Try.underlying127 rfl _ _ (by kernel_rfl)
theorem th_appClose (x : TypeId) (v : Value) (w : World) : (Instr.typeAssert (.iface 127 v) x 127 true).run Try.prog w = .ok (.tuple #[v, .bool true]) w :=
  ta_hit Try.underlying127 rfl _ _
theorem tm_done (S x : TypeId) (v : Value) (w : World) (h : ¬ S = 128) : (Instr.typeAssert (.iface S v) x 128 true).run Try.prog w = .ok (.tuple #[.agg #[.int .i64 0, .int .i64 0, .int .i64 0, .int .i64 0, .bool false, .slice none 0 0, .slice none 0 0, .slice none 0 0, .int .i64 0, .int .i64 0], .bool false]) w :=
  ta_miss Try.underlying128 rfl _ _ _ (by kernel_rfl) h
theorem tn_done (x : TypeId) (w : World) : (Instr.typeAssert .nilIface x 128 true).run Try.prog w = .ok (.tuple #[.agg #[.int .i64 0, .int .i64 0, .int .i64 0, .int .i64 0, .bool false, .slice none 0 0, .slice none 0 0, .slice none 0 0, .int .i64 0, .int .i64 0], .bool false]) w :=
  ta_nil Try.underlying128 rfl _ _ (by kernel_rfl)
theorem th_done (x : TypeId) (v : Value) (w : World) : (Instr.typeAssert (.iface 128 v) x 128 true).run Try.prog w = .ok (.tuple #[v, .bool true]) w :=
  ta_hit Try.underlying128 rfl _ _
theorem tm_datagram (S x : TypeId) (v : Value) (w : World) (h : ¬ S = 129) : (Instr.typeAssert (.iface S v) x 129 true).run Try.prog w = .ok (.tuple #[.agg #[.int .i64 0, .int .i64 0, .int .i64 0, .int .i64 0, .bool false, .slice none 0 0, .slice none 0 0, .slice none 0 0, .int .i64 0, .int .i64 0], .bool false]) w :=
  ta_miss Try.underlying129 rfl _ _ _ (by kernel_rfl) h
theorem tn_datagram (x : TypeId) (w : World) : (Instr.typeAssert .nilIface x 129 true).run Try.prog w = .ok (.tuple #[.agg #[.int .i64 0, .int .i64 0, .int .i64 0, .int .i64 0, .bool false, .slice none 0 0, .slice none 0 0, .slice none 0 0, .int .i64 0, .int .i64 0], .bool false]) w :=
  ta_nil Try.underlying129 rfl _ _ (by kernel_rfl)
theorem th_datagram (x : TypeId) (v : Value) (w : World) : (Instr.typeAssert (.iface 129 v) x 129 true).run Try.prog w = .ok (.tuple #[v, .bool true]) w :=
  ta_hit Try.underlying129 rfl _ _
theorem tm_stream (S x : TypeId) (v : Value) (w : World) (h : ¬ S = 109) : (Instr.typeAssert (.iface S v) x 109 true).run Try.prog w = .ok (.tuple #[.agg #[.int .i64 0, .int .i64 0, .int .i64 0, .int .i64 0, .bool false, .slice none 0 0, .slice none 0 0, .slice none 0 0, .int .i64 0, .int .i64 0], .bool false]) w :=
  ta_miss Try.underlying109 rfl _ _ _ (by kernel_rfl) h
theorem tn_stream (x : TypeId) (w : World) : (Instr.typeAssert .nilIface x 109 true).run Try.prog w = .ok (.tuple #[.agg #[.int .i64 0, .int .i64 0, .int .i64 0, .int .i64 0, .bool false, .slice none 0 0, .slice none 0 0, .slice none 0 0, .int .i64 0, .int .i64 0], .bool false]) w :=
  ta_nil Try.underlying109 rfl _ _ (by kernel_rfl)
theorem th_stream (x : TypeId) (v : Value) (w : World) : (Instr.typeAssert (.iface 109 v) x 109 true).run Try.prog w = .ok (.tuple #[v, .bool true]) w :=
  ta_hit Try.underlying109 rfl _ _
end Go.Proofs.Ytaodcahkkeobdaa
