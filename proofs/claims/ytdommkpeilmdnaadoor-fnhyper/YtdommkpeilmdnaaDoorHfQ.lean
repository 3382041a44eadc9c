import Derived.Test.YtdommkpeilmdnaaDoorRdK
import Derived.LaidEql
import Derived.Stop.Asserts
import Derived.RowKitTokens
import Derived.Test.YtdommkpeilmdnaaDoorHfR
import Derived.Laws.Rows
namespace Go.Proofs.YtdommkpeilmdnaaDoor
open Go.RowKit Go.Extern.Stop Go.Stop Go.Extern
set_option linter.unusedVariables false

theorem as_nil (t : Value) (w : World) :
    Calls Tryd.prog 45 #[.nilIface, t] w fun e w' => e = .returned (.bool false) ∧ w' = w := by
  go_enter Tryd.func45, Tryd.ntmps45
  go_wp2
  go_ret
  exact ⟨rfl, rfl⟩
theorem rl_valueOfP (t : Addr) (w : World) : (ReflectliteValue.unpack (.iface 81 (.pointer (some t)))).run Tryd.prog w
    = .ok (.agg #[.pointer (some ⟨2, 81, none⟩), .pointer (some ⟨w.heap.size, 0, none⟩), .int .u64 150]) (w.alloc (.cells #[.pointer (some t)] 81)) := by kernel_rfl
theorem rl_typeP (a : Addr) (w : World) : (ReflectliteValue.methodAny (ReflectliteValue.valueError "reflectlite.Value.Type" 0) (fun t _ _ _ => ReflectliteType.toType t) #[.agg #[.pointer (some ⟨2, 81, none⟩), .pointer (some a), .int .u64 150]]).run Tryd.prog w
    = .ok (.iface 107 (.agg #[.pointer (some ⟨2, 81, none⟩)])) w := by kernel_rfl
theorem rl_methodKind (h : Value) (w : World) : (Go.method 249 107 (.agg #[h]) "Kind").run Tryd.prog w = .ok (76, h) w := by kernel_rfl
theorem rl_kindP (w : World) : ((ReflectliteType.abiMethod fun t => (fun a : Nat => Value.int IntKind.u8 (a : Int)) <$> Rtype.kind t) #[.pointer (some ⟨2, 81, none⟩)]).run Tryd.prog w = .ok (.int .u8 22) w := by kernel_rfl
theorem rl_kindS (w : World) : ((ReflectliteType.abiMethod fun t => (fun a : Nat => Value.int IntKind.u8 (a : Int)) <$> Rtype.kind t) #[.pointer (some ⟨2, 79, none⟩)]).run Tryd.prog w = .ok (.int .u8 25) w := by kernel_rfl
theorem rlm (z : Sem Value) (f : TypeId → Addr → Nat → Nat → Sem Value) (v : Value) :
    ReflectliteValue.method z f #[v] = (do match ← ReflectliteValue.parts v with | none => z | some (t, a, fl) => f t a fl (fl % 32)) := rfl
theorem rl_partsP (a : Addr) (w : World) : (ReflectliteValue.parts (.agg #[.pointer (some ⟨2, 81, none⟩), .pointer (some a), .int .u64 150])).run Tryd.prog w = .ok (some (81, a, 150)) w := by kernel_rfl
theorem rl_isNilP (a p : Addr) (W : World) (ha : W.cell? a = some (.pointer (some p))) :
    (ReflectliteValue.method (ReflectliteValue.valueError "reflectlite.Value.IsNil" 0) ReflectliteValue.isNil #[.agg #[.pointer (some ⟨2, 81, none⟩), .pointer (some a), .int .u64 150]]).run Tryd.prog W = .ok (.bool false) W := by
  rw [rlm]
  simp only [Sem.run_bind, rl_partsP, Result.andThen]
  simp [ReflectliteValue.isNil, loadVar, isAgg, underlying, Tryd.underlying81, ha, Result.andThen]
theorem rl_methodElem (h : Value) (w : World) : (Go.method 249 107 (.agg #[h]) "Elem").run Tryd.prog w = .ok (86, .agg #[h]) w := by kernel_rfl
theorem rl_methodImplements (h : Value) (w : World) : (Go.method 249 107 (.agg #[h]) "Implements").run Tryd.prog w = .ok (87, .agg #[h]) w := by kernel_rfl
theorem rl_methodAssignableTo (h : Value) (w : World) : (Go.method 249 107 (.agg #[h]) "AssignableTo").run Tryd.prog w = .ok (84, .agg #[h]) w := by kernel_rfl
theorem rl_elemP (w : World) : (ReflectliteType.method ReflectliteType.elem #[.agg #[.pointer (some ⟨2, 81, none⟩)]]).run Tryd.prog w = .ok (.iface 107 (.agg #[.pointer (some ⟨2, 79, none⟩)])) w := by kernel_rfl
theorem rl_implementsS (w : World) : (ReflectliteType.relation "Implements" ReflectliteType.implements_ #[.agg #[.pointer (some ⟨2, 79, none⟩)], .iface 107 (.agg #[.pointer (some ⟨2, 50, none⟩)])]).run Tryd.prog w = .ok (.bool true) w := by kernel_rfl
theorem rl_typeOfS (v : Value) (w : World) : (ReflectliteType.typeOf #[.iface 79 v]).run Tryd.prog w = .ok (.iface 107 (.agg #[.pointer (some ⟨2, 79, none⟩)])) w := by kernel_rfl
theorem rl_assignableS (w : World) : (ReflectliteType.relation "AssignableTo" ReflectliteType.assignableTo #[.agg #[.pointer (some ⟨2, 79, none⟩)], .iface 107 (.agg #[.pointer (some ⟨2, 79, none⟩)])]).run Tryd.prog w = .ok (.bool true) w := by kernel_rfl
theorem rl_valueOfS (c : Int) (w : World) : (ReflectliteValue.unpack (.iface 79 (.agg #[.int .i64 c]))).run Tryd.prog w
    = .ok (.agg #[.pointer (some ⟨2, 79, none⟩), .pointer (some ⟨w.heap.size, 0, none⟩), .int .u64 153]) (w.alloc (.cells #[.int .i64 c] 79)) := by kernel_rfl
theorem rl_elemOfP (w : World) : (Rtype.elem? 81).run Tryd.prog w = .ok (some 79) w := by kernel_rfl
theorem rl_mkS (p : Addr) (w : World) : (ReflectliteValue.mk 79 p ReflectliteValue.flagAddr).run Tryd.prog w = .ok (.agg #[.pointer (some ⟨2, 79, none⟩), .pointer (some p), .int .u64 409]) w := by kernel_rfl
theorem rl_elemV (a p : Addr) (W : World) (ha : W.cell? a = some (.pointer (some p))) :
    (ReflectliteValue.method (ReflectliteValue.valueError "reflectlite.Value.Elem" 0) ReflectliteValue.elem #[.agg #[.pointer (some ⟨2, 81, none⟩), .pointer (some a), .int .u64 150]]).run Tryd.prog W
      = .ok (.agg #[.pointer (some ⟨2, 79, none⟩), .pointer (some p), .int .u64 409]) W := by
  rw [rlm]
  simp only [Sem.run_bind, rl_partsP, Result.andThen]
  simp [ReflectliteValue.elem, loadVar, isAgg, underlying, Tryd.underlying81, ha, Result.andThen, rl_elemOfP, rl_mkS]
theorem rls (v x : Value) : ReflectliteValue.set #[v, x] = (do
    let (some (dst, a, fl), some (src, b, _)) := (← ReflectliteValue.parts v, ← ReflectliteValue.parts x)
      | unsupported (.noEntry "extern/(internal/reflectlite.Value).Set.zeroValue")
    if fl / ReflectliteValue.flagAddr % 2 == 0 then unsupported (.noEntry "extern/(internal/reflectlite.Value).Set.unaddressable")
    let val ← loadVar src b
    if ← Rtype.directlyAssignable dst src then storeVar dst a val
    else if ← Rtype.implements dst src then
      if (← Rtype.kind src) == 20 then
        match val with
        | .nilIface => unsupported (.noEntry "extern/reflectlite: a nil value of one interface type handed on as a value of another")
        | _ => storeVar dst a val
      else storeVar dst a (.iface src val)
    else panicString ("reflectlite.Set: value of type " ++ (← Rtype.spelt src) ++ " is not assignable to type " ++ (← Rtype.spelt dst))
    pure (.tuple #[])) := rfl
theorem rl_partsSa (a : Addr) (w : World) : (ReflectliteValue.parts (.agg #[.pointer (some ⟨2, 79, none⟩), .pointer (some a), .int .u64 409])).run Tryd.prog w = .ok (some (79, a, 409)) w := by kernel_rfl
theorem rl_partsS (a : Addr) (w : World) : (ReflectliteValue.parts (.agg #[.pointer (some ⟨2, 79, none⟩), .pointer (some a), .int .u64 153])).run Tryd.prog w = .ok (some (79, a, 153)) w := by kernel_rfl
theorem rl_directS (w : World) : (Rtype.directlyAssignable 79 79).run Tryd.prog w = .ok true w := by kernel_rfl
theorem rl_sizeS (w : World) : (sizeOf 79).run Tryd.prog w = .ok 1 w := by kernel_rfl
end Go.Proofs.YtdommkpeilmdnaaDoor

namespace Go.Proofs.YtdommkpeilmdnaaDoor
open Go.RowKit Go.Extern.Stop Go.Stop Go.Extern
set_option linter.unusedVariables false

set_option linter.unusedSimpArgs false
theorem rl_lc1 (q : Nat) (c : Int) (W : World) (hb : W.cell? ⟨q, 0, none⟩ = some (.int .i64 c)) : (loadCellsFrom ⟨q, 0, none⟩ 0 1 #[]).run Tryd.prog W = .ok #[.int .i64 c] W := by
  simp [loadCellsFrom, go_sem, hb, Result.andThen]
theorem rl_setS (g q : Nat) (c : Int) (old : Value) (W : World) (hb : W.cell? ⟨q, 0, none⟩ = some (.int .i64 c)) (ht : W.cell? ⟨g, 0, none⟩ = some old) (hf : W.frozen? ⟨g, 0, none⟩ = false) :
    (ReflectliteValue.set #[.agg #[.pointer (some ⟨2, 79, none⟩), .pointer (some ⟨g, 0, none⟩), .int .u64 409], .agg #[.pointer (some ⟨2, 79, none⟩), .pointer (some ⟨q, 0, none⟩), .int .u64 153]]).run Tryd.prog W
      = .ok (.tuple #[]) (W.setCell ⟨g, 0, none⟩ (.int .i64 c)) := by
  rw [rls]
  simp only [Sem.run_bind, rl_partsSa, rl_partsS, Result.andThen]
  simp [ReflectliteValue.flagAddr, loadVar, isAgg, underlying, Tryd.underlying79, hb, Result.andThen, rl_directS, rl_sizeS, loadCells, storeVar, Value.cells, storeCells, Addr.add, rl_lc1 q c W hb]
  rw [run_store Tryd.prog W ⟨g, 0, none⟩ _ _ (by rfl)]
  simp [ht, hf]
set_option maxRecDepth 20000 in
set_option maxHeartbeats 4000000 in
theorem as_hit (c : Int) (g : Nat) (old : Value) (w : World) (hg : w.cell? ⟨0, 0, none⟩ = some (.iface 107 (.agg #[.pointer (some ⟨2, 50, none⟩)]))) (ht0 : w.cell? ⟨g, 0, none⟩ = some old) (hf0 : w.frozen? ⟨g, 0, none⟩ = false) :
    Calls Tryd.prog 45 #[faultV c, .iface 81 (.pointer (some ⟨g, 0, none⟩))] w fun ev w' => ev = .returned (.bool true) ∧ w' = ((((w.alloc (.cells #[.pointer (some ⟨g, 0, none⟩)] 81)).alloc (.cells #[.pointer (some ⟨2, 81, none⟩), .pointer (some ⟨w.heap.size, 0, none⟩), .int .u64 150] 95)).alloc (.cells #[.pointer (some ⟨2, 81, none⟩), .pointer (some ⟨w.heap.size, 0, none⟩), .int .u64 150] 95)).alloc (.cells #[.int .i64 c] 79)).setCell ⟨g, 0, none⟩ (.int .i64 c) := by
  have h6 := @run_callFunc_extern Tryd.prog 55 _ (fun args => ReflectliteValue.unpack (args.getD 0 (.tuple #[]))) Tryd.func55 (by kernel_rfl) (by kernel_rfl) (by kernel_rfl) (by kernel_rfl)
  have h7 := @run_callFunc_extern Tryd.prog 56 _ (ReflectliteValue.methodAny (ReflectliteValue.valueError "reflectlite.Value.Type" 0) (fun t _ _ _ => ReflectliteType.toType t)) Tryd.func56 (by kernel_rfl) (by kernel_rfl) (by kernel_rfl) (by kernel_rfl)
  have h8 := @run_callFunc_extern Tryd.prog 57 _ (ReflectliteValue.method (ReflectliteValue.valueError "reflectlite.Value.IsNil" 0) ReflectliteValue.isNil) Tryd.func57 (by kernel_rfl) (by kernel_rfl) (by kernel_rfl) (by kernel_rfl)
  have h27 := @run_callFunc_extern Tryd.prog 76 _ (ReflectliteType.abiMethod fun t => do pure (.int .u8 (← Rtype.kind t))) Tryd.func76 (by kernel_rfl) (by kernel_rfl) (by kernel_rfl) (by kernel_rfl)
  have h37 := @run_callFunc_extern Tryd.prog 86 _ (ReflectliteType.method ReflectliteType.elem) Tryd.func86 (by kernel_rfl) (by kernel_rfl) (by kernel_rfl) (by kernel_rfl)
  have h38 := @run_callFunc_extern Tryd.prog 87 _ (ReflectliteType.relation "Implements" ReflectliteType.implements_) Tryd.func87 (by kernel_rfl) (by kernel_rfl) (by kernel_rfl) (by kernel_rfl)
  have h10 := @run_callFunc_extern Tryd.prog 59 _ ReflectliteType.typeOf Tryd.func59 (by kernel_rfl) (by kernel_rfl) (by kernel_rfl) (by kernel_rfl)
  have h35 := @run_callFunc_extern Tryd.prog 84 _ (ReflectliteType.relation "AssignableTo" ReflectliteType.assignableTo) Tryd.func84 (by kernel_rfl) (by kernel_rfl) (by kernel_rfl) (by kernel_rfl)
  have h11 := @run_callFunc_extern Tryd.prog 60 _ (ReflectliteValue.method (ReflectliteValue.valueError "reflectlite.Value.Elem" 0) ReflectliteValue.elem) Tryd.func60 (by kernel_rfl) (by kernel_rfl) (by kernel_rfl) (by kernel_rfl)
  have h12 := @run_callFunc_extern Tryd.prog 61 _ ReflectliteValue.set Tryd.func61 (by kernel_rfl) (by kernel_rfl) (by kernel_rfl) (by kernel_rfl)
  have tO := rl_typeOfS
  have mA := rl_methodAssignableTo
  have a25 := rl_assignableS
  have v25 := rl_valueOfS
  have f6 := rl_valueOfP
  have f7 := rl_typeP
  have mK := rl_methodKind
  have mE := rl_methodElem
  have mI := rl_methodImplements
  have k27 := rl_kindP
  have k25 := rl_kindS
  have e27 := rl_elemP
  have i25 := rl_implementsS
  have n8 := rl_isNilP ⟨w.heap.size, 0, none⟩ ⟨g, 0, none⟩ ((w.alloc (.cells #[.pointer (some ⟨g, 0, none⟩)] 81)).alloc (.cells #[.pointer (some ⟨2, 81, none⟩), .pointer (some ⟨w.heap.size, 0, none⟩), .int .u64 150] 95)) (by simp)
  have hlt : 0 < w.heap.size := by
    rcases Nat.lt_or_ge 0 w.heap.size with h | h
    · exact h
    · simp [World.cell?, Array.getElem?_eq_none h] at hg
  have hg2 : ((w.alloc (.cells #[.pointer (some ⟨g, 0, none⟩)] 81)).alloc (.cells #[.pointer (some ⟨2, 81, none⟩), .pointer (some ⟨w.heap.size, 0, none⟩), .int .u64 150] 95)).cell? ⟨0, 0, none⟩ = some (.iface 107 (.agg #[.pointer (some ⟨2, 50, none⟩)])) := by
    rw [World.cell?_alloc_lt _ _ ⟨0, 0, none⟩ (by first | (simp; done) | (simp; omega)), World.cell?_alloc_lt _ _ ⟨0, 0, none⟩ hlt]; exact hg
  have htl : g < w.heap.size := by
    rcases Nat.lt_or_ge g w.heap.size with h | h
    · exact h
    · simp [World.cell?, Array.getElem?_eq_none h] at ht0
  have el := rl_elemV ⟨w.heap.size, 0, none⟩ ⟨g, 0, none⟩ (((w.alloc (.cells #[.pointer (some ⟨g, 0, none⟩)] 81)).alloc (.cells #[.pointer (some ⟨2, 81, none⟩), .pointer (some ⟨w.heap.size, 0, none⟩), .int .u64 150] 95)).alloc (.cells #[.pointer (some ⟨2, 81, none⟩), .pointer (some ⟨w.heap.size, 0, none⟩), .int .u64 150] 95)) (by rw [World.cell?_alloc_lt _ _ ⟨w.heap.size, 0, none⟩ (by first | (simp; done) | (simp; omega))]; simp)
  have st := rl_setS g (w.heap.size + 1 + 1 + 1) c old ((((w.alloc (.cells #[.pointer (some ⟨g, 0, none⟩)] 81)).alloc (.cells #[.pointer (some ⟨2, 81, none⟩), .pointer (some ⟨w.heap.size, 0, none⟩), .int .u64 150] 95)).alloc (.cells #[.pointer (some ⟨2, 81, none⟩), .pointer (some ⟨w.heap.size, 0, none⟩), .int .u64 150] 95)).alloc (.cells #[.int .i64 c] 79))
    (by rw [World.cell?_alloc_at _ _ _ _ (by simp)]; rfl)
    (by rw [World.cell?_alloc_lt _ _ ⟨g, 0, none⟩ (by first | (simp; done) | (simp; omega)), World.cell?_alloc_lt _ _ ⟨g, 0, none⟩ (by first | (simp; done) | (simp; omega)), World.cell?_alloc_lt _ _ ⟨g, 0, none⟩ (by first | (simp; done) | (simp; omega)), World.cell?_alloc_lt _ _ ⟨g, 0, none⟩ htl]; exact ht0)
    (by rw [World.frozen?_alloc_old _ _ ⟨g, 0, none⟩ (by first | (simp; done) | (simp; omega)), World.frozen?_alloc_old _ _ ⟨g, 0, none⟩ (by first | (simp; done) | (simp; omega)), World.frozen?_alloc_old _ _ ⟨g, 0, none⟩ (by first | (simp; done) | (simp; omega)), World.frozen?_alloc_old _ _ ⟨g, 0, none⟩ (Nat.ne_of_lt htl)]; exact hf0)
  unfold faultV
  go_enter Tryd.func45, Tryd.ntmps45
  go_wp2
  refine wp_loop_rounds 1 ?_
  rw [rounds_succ]
  go_wp2
  go_ret
  exact ⟨rfl, rfl⟩
end Go.Proofs.YtdommkpeilmdnaaDoor

namespace Go.Proofs.YtdommkpeilmdnaaDoor
open Go.RowKit
set_option linter.unusedVariables false

/-- The variable errors.errorType, as the program's text lays it. -/
def errT (w : World) : Prop := w.cell? ⟨0, 0, none⟩ = some (.iface 107 (.agg #[.pointer (some ⟨2, 50, none⟩)]))
theorem errT.lt {w : World} (h : errT w) : 0 < w.heap.size := by
  rcases Nat.lt_or_ge 0 w.heap.size with h' | h'
  · exact h'
  · simp [errT, World.cell?, Array.getElem?_eq_none h'] at h
theorem errT.below {w w' : World} {B : Nat} (h : errT w) (hb : Below B w w') (h0 : 0 < B) : errT w' := (hb.cell (p := ⟨0, 0, none⟩) h0).trans h
theorem codeC_nil (w : World) : Calls Tryd.prog 28 #[.nilIface] w fun e w' => e = .returned (.int .i64 0) ∧ Below w.heap.size w w' := by
  have B0 : ∀ o, Below w.heap.size w (w.alloc o) := fun o => (Below.refl _ _).alloc (Nat.le_refl _) o
  go_enter Tryd.func28, Tryd.ntmps28
  go_wp2_with fail
  go_at_call 45
  refine (as_nil _ _).mono ?_
  rintro e w1 ⟨rfl, rfl⟩
  go_wp2_with fail
  go_ret
  exact ⟨rfl, B0 _⟩
set_option maxRecDepth 20000 in
theorem codeC_fault (c : Int) (w : World) (hg : errT w) : Calls Tryd.prog 28 #[faultV c] w fun e w' => e = .returned (.int .i64 c) ∧ Below w.heap.size w w' := by
  have B0 : Below w.heap.size w (w.alloc (.cells #[.int .i64 0] 79)) := (Below.refl _ _).alloc (Nat.le_refl _) _
  have hn := heap_alloc_new w (.cells #[.int .i64 0] 79)
  have h1 := as_hit c w.heap.size (.int .i64 0) _ (hg.below B0 hg.lt) ((bk_cell hn 0).trans rfl) (bk_free hn 0)
  unfold faultV at h1 ⊢
  have HH : Hid _ := And.intro B0 hn
  clear B0 hn hg
  go_enter Tryd.func28, Tryd.ntmps28
  go_wp2_with fail
  go_at_call 45
  refine h1.mono ?_
  rintro e w1 ⟨rfl, hw1⟩
  have hb : Below w.heap.size w w1 := by
    rw [hw1]
    refine Below.setCell (p := ⟨w.heap.size, 0, none⟩) ?_ (Nat.le_refl w.heap.size) _
    exact (((HH.out.1.alloc (by simp) _).alloc (by simp <;> omega) _).alloc (by simp <;> omega) _).alloc (by simp <;> omega) _
  have hc : w1.cell? ⟨w.heap.size, 0, none⟩ = some (.int .i64 c) := by
    rw [hw1]
    have e : ((((((w.alloc (.cells #[.int .i64 0] 79)).alloc (.cells #[.pointer (some ⟨w.heap.size, 0, none⟩)] 81)).alloc (.cells #[.pointer (some ⟨2, 81, none⟩), .pointer (some ⟨(w.alloc (.cells #[.int .i64 0] 79)).heap.size, 0, none⟩), .int .u64 150] 95)).alloc (.cells #[.pointer (some ⟨2, 81, none⟩), .pointer (some ⟨(w.alloc (.cells #[.int .i64 0] 79)).heap.size, 0, none⟩), .int .u64 150] 95)).alloc (.cells #[.int .i64 c] 79)) : World).heap[w.heap.size]? = some (.cells #[.int .i64 0] 79 (0, 0)) := by
      rw [Below.heap_alloc _ _ _ (by simp <;> omega), Below.heap_alloc _ _ _ (by simp <;> omega), Below.heap_alloc _ _ _ (by simp <;> omega), Below.heap_alloc _ _ _ (by simp)]
      exact HH.out.2
    exact (bk_cell (bk_set e 0 (.int .i64 c)) 0).trans rfl
  clear hw1
  go_wp2_with fail
  go_ret
  exact ⟨rfl, hb⟩
end Go.Proofs.YtdommkpeilmdnaaDoor

namespace Go.Proofs.YtdommkpeilmdnaaDoor
open Go.RowKit
set_option linter.unusedVariables false

theorem results_row_tmp2R {P : Program} {fn : Func} {p q r : Tmp} {ty : TypeId} (h : fn.results = #[.cell p ty, .tmp q, .tmp r]) (tmps : Array Value) (w : World) (g : Nat) (t : TypeId) (cs : Array Value) (fr : Nat × Nat) (d : TypeDesc) (u v : Value)
    (hp : tmps.getD p undef = .pointer (some ⟨g, 0, none⟩)) (hq : tmps.getD q undef = u) (hr : tmps.getD r undef = v) (hg : w.heap[g]? = some (.cells cs t fr))
    (hu : P.underlying ty = some d) (hd : (match d with | .struct _ | .array _ _ => true | _ => false) = true) (hi : (P.info? ty).map (·.size) = some cs.size) :
    (results fn tmps).run P w = .ok (.tuple #[.agg cs, u, v]) w := by
  have hp' : tmps[p]?.getD undef = .pointer (some ⟨g, 0, none⟩) := by simpa using hp
  have hq' : tmps[q]?.getD undef = u := by simpa using hq
  have hr' : tmps[r]?.getD undef = v := by simpa using hr
  simp [results, h, hp', hq', hr', asAddr, run_loadVar_row w g t ty cs fr d hg hu hd hi]
theorem newAtR (w : World) (o : Obj) (k : Nat) (h : w.heap.size = k) : (w.alloc o).heap[k]? = some o := by subst h; exact heap_alloc_new w o
theorem six_blocksR (w : World) (o0 o1 o2 o3 o4 o5 : Obj) :
    ((((((w.alloc o0).alloc o1).alloc o2).alloc o3).alloc o4).alloc o5).heap[w.heap.size]? = some o0 ∧ ((((((w.alloc o0).alloc o1).alloc o2).alloc o3).alloc o4).alloc o5).heap[w.heap.size + 1]? = some o1 ∧
    ((((((w.alloc o0).alloc o1).alloc o2).alloc o3).alloc o4).alloc o5).heap[w.heap.size + 2]? = some o2 ∧ ((((((w.alloc o0).alloc o1).alloc o2).alloc o3).alloc o4).alloc o5).heap[w.heap.size + 3]? = some o3 ∧
    ((((((w.alloc o0).alloc o1).alloc o2).alloc o3).alloc o4).alloc o5).heap[w.heap.size + 4]? = some o4 ∧ ((((((w.alloc o0).alloc o1).alloc o2).alloc o3).alloc o4).alloc o5).heap[w.heap.size + 5]? = some o5 := by
  refine ⟨?_, ?_, ?_, ?_, ?_, ?_⟩
  · rw [Below.heap_alloc _ _ _ (by first | (simp; done) | (simp; omega)), Below.heap_alloc _ _ _ (by first | (simp; done) | (simp; omega)), Below.heap_alloc _ _ _ (by first | (simp; done) | (simp; omega)), Below.heap_alloc _ _ _ (by first | (simp; done) | (simp; omega)), Below.heap_alloc _ _ _ (by first | (simp; done) | (simp; omega))]; exact newAtR _ _ _ (by simp)
  · rw [Below.heap_alloc _ _ _ (by first | (simp; done) | (simp; omega)), Below.heap_alloc _ _ _ (by first | (simp; done) | (simp; omega)), Below.heap_alloc _ _ _ (by first | (simp; done) | (simp; omega)), Below.heap_alloc _ _ _ (by first | (simp; done) | (simp; omega))]; exact newAtR _ _ _ (by simp)
  · rw [Below.heap_alloc _ _ _ (by first | (simp; done) | (simp; omega)), Below.heap_alloc _ _ _ (by first | (simp; done) | (simp; omega)), Below.heap_alloc _ _ _ (by first | (simp; done) | (simp; omega))]; exact newAtR _ _ _ (by simp)
  · rw [Below.heap_alloc _ _ _ (by first | (simp; done) | (simp; omega)), Below.heap_alloc _ _ _ (by first | (simp; done) | (simp; omega))]; exact newAtR _ _ _ (by simp)
  · rw [Below.heap_alloc _ _ _ (by first | (simp; done) | (simp; omega))]; exact newAtR _ _ _ (by simp)
  · exact newAtR _ _ _ (by simp)
theorem six_belowR (w : World) (o0 o1 o2 o3 o4 o5 : Obj) : Below w.heap.size w ((((((w.alloc o0).alloc o1).alloc o2).alloc o3).alloc o4).alloc o5) :=
  ((((((Below.refl _ _).alloc (Nat.le_refl _) _).alloc (by simp) _).alloc (by simp; omega) _).alloc (by simp; omega) _).alloc (by simp; omega) _).alloc (by simp; omega) _
theorem row_liesR {w : World} {v : Value} {xs : List Int} (h : Row w .u8 v xs) : ∃ ao cap, v = .slice ao xs.length cap ∧ (xs = [] ∨ ∃ b off, ao = some ⟨b, off, none⟩ ∧ Lies w b off xs.length cap xs) := by
  rcases h with ⟨rfl, ao, cap, rfl⟩ | ⟨b, off, cap, rfl, hlt, hcap, hc⟩
  · exact ⟨ao, cap, rfl, Or.inl rfl⟩
  · exact ⟨_, cap, rfl, Or.inr ⟨b, off, rfl, ⟨rfl, hlt, hcap.1, hcap.2, hc⟩⟩⟩
abbrev zfO : Obj := .cells #[.int .i64 0, .int .i64 0, .slice none 0 0, .slice none 0 0] 26
/-- The world in which a frame is read: the place, the answer, the frame, the place behind it. -/
abbrev rhW (w : World) (at' : Int) : World := (((w.alloc (.cells #[.int .i64 at'] 3)).alloc zfO).alloc zfO).alloc (.cells #[.int .i64 0] 3)
/-- .. and the error and the reader besides. -/
abbrev rhW6 (w : World) (at' : Int) (ao : Option Addr) (n cap : Nat) : World := ((rhW w at').alloc (.cells #[.nilIface] 50)).alloc (.cells #[.slice ao n cap, .int .i64 0] 54)
theorem rhClos (ao : Option Addr) (n cap : Nat) (at' : Int) (xs : List Int) (w : World) (ht : Tab w) (hlie : xs = [] ∨ ∃ b off, ao = some ⟨b, off, none⟩ ∧ Lies w b off n cap xs) (hlen : xs.length = n) (hB : Bytes xs) (hn : n ≤ 9223372036854775807) :
    Calls Tryd.prog 23 #[.pointer (some ⟨w.heap.size + 5, 0, none⟩), .pointer (some ⟨w.heap.size, 0, none⟩), .pointer (some ⟨w.heap.size + 2, 0, none⟩), .pointer (some ⟨w.heap.size + 3, 0, none⟩)] (rhW6 w at' ao n cap) fun e w' => Chg (S3 (w.heap.size + 5) (w.heap.size + 2) (w.heap.size + 3)) (rhW6 w at' ao n cap) w' ∧ ((∃ c, rhE xs at' = .error c ∧ e = .panicked [leftP c]) ∨
      ∃ f q, rhE xs at' = .ok (f, q) ∧ e = .returned (.tuple #[]) ∧ CloR (rhW6 w at' ao n cap).heap.size w' (w.heap.size + 2) (w.heap.size + 3) f q) := by
  obtain ⟨e0, e1, e2, e3, e4, e5⟩ := six_blocksR w (.cells #[.int .i64 at'] 3) zfO zfO (.cells #[.int .i64 0] 3) (.cells #[.nilIface] 50) (.cells #[.slice ao n cap, .int .i64 0] 54)
  have hb := six_belowR w (.cells #[.int .i64 at'] 3) zfO zfO (.cells #[.int .i64 0] 3) (.cells #[.nilIface] 50) (.cells #[.slice ao n cap, .int .i64 0] 54)
  have t1 := ht.lt
  have hT : ¬ S3 (w.heap.size + 5) (w.heap.size + 2) (w.heap.size + 3) 1 := fun h => by rcases h with h | h | h <;> omega
  by_cases hok : xs.length ≤ 65536 ∧ 0 ≤ at' ∧ at' ≤ xs.length ∧ varOK xs at'.toNat
  · obtain ⟨h1, h2, h3, hv⟩ := hok
    obtain ⟨p, rfl⟩ := Int.eq_ofNat_of_zero_le h2
    rw [Int.toNat_natCast] at hv
    rcases hlie with rfl | ⟨b, off, rfl, hl⟩
    · exact absurd hv.1 (by simp)
    have hbl := hl.lt
    have hE : rhE xs (p : Int) = rhT xs p := by unfold rhE; rw [if_neg (by omega), if_neg (by omega), Int.toNat_natCast]
    rw [hE]
    exact clo_ok (w.heap.size + 5) w.heap.size (w.heap.size + 2) (w.heap.size + 3) b off n cap p xs _ (ht.below hb t1) ((bk_cell e0 0).trans rfl) e2 e5 e3 (hl.below hb) hB (by omega) (fun h => by rcases h with h | h | h <;> omega) hT (by omega) (by omega) (by omega) hv
  · obtain ⟨c, hc, hg, hE⟩ := rh_bad xs at' hok
    refine (clo_bad (w.heap.size + 5) w.heap.size (w.heap.size + 2) (w.heap.size + 3) at' c ao n cap xs _ (ht.below hb t1) ((bk_cell e0 0).trans rfl) e2 e5 ?_ hlen hB hn hT hc hg).mono ?_
    · intro u hu
      rcases hlie with rfl | ⟨b, off, rfl, hl⟩
      · exact Or.inl ⟨rfl, _, _, by rw [← hlen]; rfl⟩
      · have hbl := hl.lt
        have := ((hl.below hb).chg hu (fun h => by rcases h with h | h | h <;> omega)).row 0 n (by omega)
        rwa [Nat.add_zero, Nat.sub_zero, List.drop_zero, List.take_of_length_le (by rw [hl.len]; exact Nat.le_refl _)] at this
    · rintro e w' ⟨rfl, hc'⟩
      exact ⟨hc', Or.inl ⟨c, hE, rfl⟩⟩
end Go.Proofs.YtdommkpeilmdnaaDoor

namespace Go.Proofs.YtdommkpeilmdnaaDoor
open Go.RowKit
set_option linter.unusedVariables false

/-- Four stores into one block. -/
theorem st4_heap {w : World} {g : Nat} {a0 a1 a2 a3 c0 c1 c2 c3 : Value} {t : TypeId} (h : w.heap[g]? = some (.cells #[c0, c1, c2, c3] t (0, 0))) : ((((w.setCell ⟨g, 0, none⟩ a0).setCell ⟨g, 1, none⟩ a1).setCell ⟨g, 2, none⟩ a2).setCell ⟨g, 3, none⟩ a3).heap[g]? = some (.cells #[a0, a1, a2, a3] t (0, 0)) :=
  (bk_set (bk_set (bk_set (bk_set h 0 a0) 1 a1) 2 a2) 3 a3).trans (congrArg (fun x => some (Obj.cells x t (0, 0))) (by simp))
/-- What ReadHyper answers. -/
def RhA' (B : Nat) (e : Ending) (w' : World) (r : HF × Int × Int) : Prop := ∃ d s : Value, e = .returned (.tuple #[hV r.1 d s, .int .i64 r.2.1, .int .i64 r.2.2]) ∧ w'.ownsRow B 5 1 d r.1.d.length (r.1.d.map (Value.int .u8)) ∧ GOwns 62 2 w' B s (SSetting.L r.1.s) ∧ (∀ j, d.ownBlock = some j → s.ownBlock ≠ some j)
set_option maxRecDepth 20000 in
set_option maxHeartbeats 2000000 in
theorem rhI_bad (ao : Option Addr) (n cap : Nat) (at' c : Int) (xs : List Int) (w : World) (ht : Tab w) (he : errT w) (hlie : xs = [] ∨ ∃ b off, ao = some ⟨b, off, none⟩ ∧ Lies w b off n cap xs) (hlen : xs.length = n) (hB : Bytes xs) (hn : n ≤ 9223372036854775807) (hc : rhE xs at' = .error c) :
    Calls Tryd.prog 8 #[.slice ao n cap, .int .i64 at'] w fun e w' => RhA' w.heap.size e w' (zHF, 0, c) ∧ Below w.heap.size w w' := by
  have hcl := rhClos ao n cap at' xs w ht hlie hlen hB hn
  obtain ⟨e0, e1, e2, e3, e4, e5⟩ := six_blocksR w (.cells #[.int .i64 at'] 3) zfO zfO (.cells #[.int .i64 0] 3) (.cells #[.nilIface] 50) (.cells #[.slice ao n cap, .int .i64 0] 54)
  have hb := six_belowR w (.cells #[.int .i64 at'] 3) zfO zfO (.cells #[.int .i64 0] 3) (.cells #[.nilIface] 50) (.cells #[.slice ao n cap, .int .i64 0] 54)
  have hz5 : w.heap.size + 5 < (rhW6 w at' ao n cap).heap.size := (Array.getElem?_eq_some_iff.1 e5).1
  have hcl2 : Calls Tryd.prog 23 #[.pointer (some ⟨w.heap.size + 5, 0, none⟩), .pointer (some ⟨w.heap.size, 0, none⟩), .pointer (some ⟨w.heap.size + 2, 0, none⟩), .pointer (some ⟨w.heap.size + 3, 0, none⟩)] (rhW6 w at' ao n cap) fun e w' => e = .panicked [leftP c] ∧ Chg (S3 (w.heap.size + 5) (w.heap.size + 2) (w.heap.size + 3)) (rhW6 w at' ao n cap) w' := by
    refine hcl.mono ?_
    rintro e w' ⟨h1, ⟨c', h2, h3⟩ | ⟨f, q, h2, _⟩⟩
    · rw [hc] at h2; cases h2; exact ⟨h3, h1⟩
    · rw [hc] at h2; cases h2
  have hrd := rbH_bad ao n cap (.pointer (some ⟨w.heap.size, 0, none⟩)) (.pointer (some ⟨w.heap.size + 2, 0, none⟩)) (.pointer (some ⟨w.heap.size + 3, 0, none⟩)) c (rhW w at')
    (fun w' => Chg (S3 (w.heap.size + 5) (w.heap.size + 2) (w.heap.size + 3)) (rhW6 w at' ao n cap) w') (by simpa using hcl2) (fun w' hq => by
      have h1 := (hq.block (w.heap.size + 4) (by omega) (fun h => by rcases h with h | h | h <;> omega)).trans e4
      simpa using h1)
  have hmf : ∀ (fn : Fn) (first cap : Array Value) (w : World), (Instr.makeFunc fn first cap).run Tryd.prog w = .ok (.func fn first cap) w := fun _ _ _ _ => rfl
  have HH : Hid _ := And.intro hrd (And.intro hb (And.intro e1 (And.intro hz5 (And.intro he he.lt))))
  clear hcl hcl2 hrd e0 e1 e2 e3 e4 e5 hb hz5 ht hlie hlen hB hc he
  go_enter Tryd.func8, Tryd.ntmps8
  go_wp2_with fail
  go_at_call 22
  refine HH.out.1.mono ?_
  rintro e w1 ⟨rfl, w', hq, hw1⟩
  have hb1 : Below w.heap.size w w1 := by
    have h1 : Below w.heap.size w w' := HH.out.2.1.trans (hq.below HH.out.2.1.size (fun k hk => by rcases hk with hk | hk | hk <;> omega))
    rw [hw1]
    exact (h1.setCell (by simp <;> omega) _).alloc (Nat.le_trans h1.size (by simp [World.setCell])) _
  have e11 : w1.heap[w.heap.size + 1]? = some (.cells #[.int .i64 0, .int .i64 0, .slice none 0 0, .slice none 0 0] 26 (0, 0)) := by
    have h1 := (hq.block (w.heap.size + 1) (by have := HH.out.2.2.2.1; omega) (fun hk => by rcases hk with hk | hk | hk <;> omega)).trans HH.out.2.2.1
    have h2 : w.heap.size + 1 < w'.heap.size := (Array.getElem?_eq_some_iff.1 h1).1
    rw [hw1, Below.heap_alloc _ _ _ (by simp [World.setCell] <;> omega), bk_other (by simp <;> omega)]
    exact h1
  have CD := codeC_fault c w1 (HH.out.2.2.2.2.1.below hb1 HH.out.2.2.2.2.2)
  have H1 : Hid _ := And.intro hb1 (And.intro e11 CD)
  clear hb1 e11 CD hw1 hq
  unfold faultV at H1 ⊢
  go_wp2_with fail
  go_at_call 28
  refine H1.out.2.2.mono ?_
  rintro e w2 ⟨rfl, b2⟩
  have B2 : Below w.heap.size w w2 := H1.out.1.trans (b2.mono H1.out.1.size)
  have e21 := (b2.block (w.heap.size + 1) (Array.getElem?_eq_some_iff.1 H1.out.2.1).1).trans H1.out.2.1
  have c0 : w2.cell? ⟨w.heap.size + 1, 0, none⟩ = some (.int .i64 0) := (bk_cell e21 0).trans rfl
  have c1 : w2.cell? ⟨w.heap.size + 1, 1, none⟩ = some (.int .i64 0) := (bk_cell e21 1).trans rfl
  have c2 : w2.cell? ⟨w.heap.size + 1, 2, none⟩ = some (.slice none 0 0) := (bk_cell e21 2).trans rfl
  have c3 : w2.cell? ⟨w.heap.size + 1, 3, none⟩ = some (.slice none 0 0) := (bk_cell e21 3).trans rfl
  have f0 := bk_free e21 0
  have f1 := bk_free e21 1
  have f2 := bk_free e21 2
  have f3 := bk_free e21 3
  have H2 : Hid _ := And.intro B2 e21
  clear B2 e21 b2
  go_wp2_with fail
  refine bodyPost_ret (v := .tuple #[.agg #[.int .i64 0, .int .i64 0, .slice none 0 0, .slice none 0 0], .int .i64 0, .int .i64 c]) ?_ rfl ?_
  · refine results_row_tmp2R (t := 26) rfl _ _ (w.heap.size + 1) _ (fr := (0, 0)) _ _ _ rfl rfl rfl ?_ Tryd.underlying26 rfl infoHF
    exact st4_heap H2.out.2
  · exact ⟨⟨.slice none 0 0, .slice none 0 0, rfl, World.ownsRow_nil _ _ _ _, GOwns.nil _ _ _ _, fun j h => by cases h⟩, (((H2.out.1.setCell (by simp) _).setCell (by simp) _).setCell (by simp) _).setCell (by simp) _⟩
set_option maxRecDepth 20000 in
set_option maxHeartbeats 2000000 in
theorem rhI_ok (ao : Option Addr) (n cap : Nat) (at' : Int) (f : HF) (q : Nat) (xs : List Int) (w : World) (ht : Tab w) (hlie : xs = [] ∨ ∃ b off, ao = some ⟨b, off, none⟩ ∧ Lies w b off n cap xs) (hlen : xs.length = n) (hB : Bytes xs) (hn : n ≤ 9223372036854775807) (hc : rhE xs at' = .ok (f, q)) :
    Calls Tryd.prog 8 #[.slice ao n cap, .int .i64 at'] w fun e w' => RhA' w.heap.size e w' (f, (q : Int), 0) ∧ Below w.heap.size w w' := by
  have hcl := rhClos ao n cap at' xs w ht hlie hlen hB hn
  obtain ⟨e0, e1, e2, e3, e4, e5⟩ := six_blocksR w (.cells #[.int .i64 at'] 3) zfO zfO (.cells #[.int .i64 0] 3) (.cells #[.nilIface] 50) (.cells #[.slice ao n cap, .int .i64 0] 54)
  have hb := six_belowR w (.cells #[.int .i64 at'] 3) zfO zfO (.cells #[.int .i64 0] 3) (.cells #[.nilIface] 50) (.cells #[.slice ao n cap, .int .i64 0] 54)
  have hz5 : w.heap.size + 5 < (rhW6 w at' ao n cap).heap.size := (Array.getElem?_eq_some_iff.1 e5).1
  have hcl2 : Calls Tryd.prog 23 #[.pointer (some ⟨w.heap.size + 5, 0, none⟩), .pointer (some ⟨w.heap.size, 0, none⟩), .pointer (some ⟨w.heap.size + 2, 0, none⟩), .pointer (some ⟨w.heap.size + 3, 0, none⟩)] (rhW6 w at' ao n cap) fun e w' => e = .returned (.tuple #[]) ∧ (Chg (S3 (w.heap.size + 5) (w.heap.size + 2) (w.heap.size + 3)) (rhW6 w at' ao n cap) w' ∧ CloR (rhW6 w at' ao n cap).heap.size w' (w.heap.size + 2) (w.heap.size + 3) f q) := by
    refine hcl.mono ?_
    rintro e w' ⟨h1, ⟨c', h2, h3⟩ | ⟨f', q', h2, h3, h4⟩⟩
    · rw [hc] at h2; cases h2
    · rw [hc] at h2; cases h2; exact ⟨h3, h1, h4⟩
  have hrd := rbH_ok ao n cap (.pointer (some ⟨w.heap.size, 0, none⟩)) (.pointer (some ⟨w.heap.size + 2, 0, none⟩)) (.pointer (some ⟨w.heap.size + 3, 0, none⟩)) (rhW w at')
    (fun w' => Chg (S3 (w.heap.size + 5) (w.heap.size + 2) (w.heap.size + 3)) (rhW6 w at' ao n cap) w' ∧ CloR (rhW6 w at' ao n cap).heap.size w' (w.heap.size + 2) (w.heap.size + 3) f q) (by simpa using hcl2) (fun w' hq => by
      have h1 := (hq.1.block (w.heap.size + 4) (by omega) (fun h => by rcases h with h | h | h <;> omega)).trans e4
      simpa using h1)
  have hmf : ∀ (fn : Fn) (first cap : Array Value) (w : World), (Instr.makeFunc fn first cap).run Tryd.prog w = .ok (.func fn first cap) w := fun _ _ _ _ => rfl
  have HH : Hid _ := And.intro hrd (And.intro hb (And.intro e1 hz5))
  clear hcl hcl2 hrd e0 e1 e2 e3 e4 e5 hb hz5 ht hlie hlen hB hc
  go_enter Tryd.func8, Tryd.ntmps8
  go_wp2_with fail
  go_at_call 22
  refine HH.out.1.mono ?_
  rintro e w1 ⟨rfl, w', ⟨hq, ⟨d, s, F', D', S', hap⟩, hN⟩, hw1⟩
  have hs4 : (rhW w at').heap.size = w.heap.size + 4 := by simp
  have hb1 : Below w.heap.size w w1 := by
    have h1 : Below w.heap.size w w' := HH.out.2.1.trans (hq.below HH.out.2.1.size (fun k hk => by rcases hk with hk | hk | hk <;> omega))
    rw [hw1]
    exact h1.setCell (by simp <;> omega) _
  have e11 : w1.heap[w.heap.size + 1]? = some (.cells #[.int .i64 0, .int .i64 0, .slice none 0 0, .slice none 0 0] 26 (0, 0)) := by
    have h1 := (hq.block (w.heap.size + 1) (by have := HH.out.2.2.2; omega) (fun hk => by rcases hk with hk | hk | hk <;> omega)).trans HH.out.2.2.1
    rw [hw1, bk_other (by omega)]
    exact h1
  have F1 : fB w1 (w.heap.size + 2) f.k f.a d s := by
    unfold fB
    rw [hw1, bk_other (by omega)]
    exact F'
  have N1 : w1.heap[w.heap.size + 3]? = some (.cells #[.int .i64 (q : Int)] 3 (0, 0)) := by
    rw [hw1, bk_other (by omega)]
    exact hN
  have D1 : w1.ownsRow (rhW6 w at' ao n cap).heap.size 5 1 d f.d.length (f.d.map (Value.int .u8)) := by
    rw [hw1]
    exact own_setH D' (by rw [hs4]; have := HH.out.2.2.2; omega)
  have S1 : GOwns 62 2 w1 (rhW6 w at' ao n cap).heap.size s (SSetting.L f.s) := by
    rw [hw1]
    exact gown_setH S' (by rw [hs4]; have := HH.out.2.2.2; omega)
  have c0 := F1.c0
  have c1 := F1.c1
  have c2 := F1.c2
  have c3 := F1.c3
  have n0 : w1.cell? ⟨w.heap.size + 3, 0, none⟩ = some (.int .i64 (q : Int)) := (bk_cell N1 0).trans rfl
  have r0 : w1.cell? ⟨w.heap.size + 1, 0, none⟩ = some (.int .i64 0) := (bk_cell e11 0).trans rfl
  have r1 : w1.cell? ⟨w.heap.size + 1, 1, none⟩ = some (.int .i64 0) := (bk_cell e11 1).trans rfl
  have r2 : w1.cell? ⟨w.heap.size + 1, 2, none⟩ = some (.slice none 0 0) := (bk_cell e11 2).trans rfl
  have r3 : w1.cell? ⟨w.heap.size + 1, 3, none⟩ = some (.slice none 0 0) := (bk_cell e11 3).trans rfl
  have f0 := bk_free e11 0
  have f1 := bk_free e11 1
  have f2 := bk_free e11 2
  have f3 := bk_free e11 3
  obtain ⟨da, dc, ed⟩ := (row_of_owns D1).form
  obtain ⟨sa, sc, es⟩ := srow_form S1.row
  obtain ⟨dn, edn⟩ : ∃ dn, dn = f.d.length := ⟨_, rfl⟩
  obtain ⟨sn, esn⟩ : ∃ sn, sn = f.s.length := ⟨_, rfl⟩
  rw [← edn] at ed
  rw [← esn] at es
  have H1 : Hid _ := And.intro hb1 (And.intro e11 (And.intro D1 (And.intro S1 (And.intro hap HH.out.2.2.2))))
  subst ed
  subst es
  clear hb1 e11 F1 N1 D1 S1 hap hw1 hq F' D' S' hN HH hs4 edn esn
  go_wp2_with fail
  go_region
  all_goals
    go_wp2_with fail
    refine bodyPost_ret (v := .tuple #[.agg #[.int .i64 f.k, .int .i64 f.a, .slice da dn dc, .slice sa sn sc], .int .i64 (q : Int), .int .i64 0]) ?_ rfl ?_
    · refine results_row_tmp2R (t := 26) rfl _ _ (w.heap.size + 1) _ (fr := (0, 0)) _ _ _ rfl rfl rfl ?_ Tryd.underlying26 rfl infoHF
      exact st4_heap (w := w1.drew) H1.out.2.1
    · have hz := H1.out.2.2.2.2.2
      have hdr : Below w.heap.size w w1.drew := below_drewN H1.out.1 1
      refine ⟨⟨.slice da dn dc, .slice sa sn sc, rfl, ?_, ?_, H1.out.2.2.2.2.1⟩, (((hdr.setCell (by simp) _).setCell (by simp) _).setCell (by simp) _).setCell (by simp) _⟩
      · exact owns_mono (own_setH (own_setH (own_setH (own_setH (show w1.drew.ownsRow _ _ 1 _ _ _ from H1.out.2.2.1) (by omega)) (by omega)) (by omega)) (by omega)) (by omega)
      · exact (gown_setH (gown_setH (gown_setH (gown_setH (show GOwns _ 2 w1.drew _ _ _ from H1.out.2.2.2.1) (by omega)) (by omega)) (by omega)) (by omega)).mono (by omega)
/-- The program's ReadHyper. -/
theorem implRh (v : Value) (xs : List Int) (at' : Int) (w : World) (ht : Tab w) (he : errT w) (hrow : Row w .u8 v xs) (hB : Bytes xs) (hn : xs.length ≤ 9223372036854775807) :
    Calls Tryd.prog 8 #[v, .int .i64 at'] w fun e w' => RhA' w.heap.size e w' (rhR xs at') ∧ Below w.heap.size w w' := by
  obtain ⟨ao, cap, rfl, hlie⟩ := row_liesR hrow
  rw [rhR_E]
  cases hE : rhE xs at' with
  | error c => exact rhI_bad ao _ cap at' c xs w ht he hlie rfl hB hn hE
  | ok r =>
    obtain ⟨f, q⟩ := r
    exact rhI_ok ao _ cap at' f q xs w ht hlie rfl hB hn hE
end Go.Proofs.YtdommkpeilmdnaaDoor
