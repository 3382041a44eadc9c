import Derived.Test.YtdommkpeilmdnaaDoorRdG
import Derived.Defers
import Derived.Recover
namespace Go.Proofs.YtdommkpeilmdnaaDoor
open Go.RowKit
set_option linter.unusedVariables false

set_option maxRecDepth 20000 in
theorem catch_idle (p : Addr) (w : World) :
    CallsD Tryd.prog 41 #[.pointer (some p)] .returning w fun e u' w' => e = .returned (.tuple #[]) ∧ u' = .returning ∧ w' = w := by
  refine callsD_of_wpS Tryd.func41 rfl fun c₀ cs hu => ?_
  apply wpS_seq
  apply wpS_region
  simp [wpOpsS, go_sem, recoverD, hu, Tryd.ntmps41, Exit.thenS]
  refine wpS_of_wp ?_
  go_wp2
  cases c₀
  simp_all [bodyPostS, results, Tryd.results41]
theorem taLeft (x : TypeId) (v : Value) (w : World) : (Instr.typeAssert (.iface 73 v) x 73 true).run Tryd.prog w = .ok (.tuple #[v, .bool true]) w := by
  have hr := run_underlying Tryd.underlying73 w
  simp_all [Instr.typeAssert, go_sem]
/-- The error that a code becomes. -/
def faultV (c : Int) : Value := .iface 79 (.agg #[.int .i64 c])
set_option maxRecDepth 20000 in
theorem catch_left (g : Nat) (c : Int) (older : List PanicEntry) (w : World) (hc : w.heap[g]? = some (.cells #[.nilIface] 50 (0, 0))) :
    CallsD Tryd.prog 41 #[.pointer (some ⟨g, 0, none⟩)] (.panicking (leftP c :: older)) w fun e u' w' => e = .returned (.tuple #[]) ∧ u' = .panicking ({ v := leftV c, recovered := true } :: older) ∧
      w' = (w.setCell ⟨g, 0, none⟩ (faultV c)).alloc (.cells #[faultV c] 73) := by
  have c0 : w.cell? ⟨g, 0, none⟩ = some .nilIface := (bk_cell hc 0).trans rfl
  have f0 : w.frozen? ⟨g, 0, none⟩ = false := bk_free hc 0
  have hlt : g < w.heap.size := (Array.getElem?_eq_some_iff.1 hc).1
  have hne : ¬ g = w.heap.size := by omega
  refine callsD_of_wpS Tryd.func41 rfl fun c₀ cs hu => ?_
  apply wpS_seq
  apply wpS_region
  simp [wpOpsS, go_sem, recoverD, hu, Tryd.ntmps41, Exit.thenS, leftP]
  refine wpS_of_wp ?_
  unfold leftV
  have ta := taLeft
  change Code.wp _ _ _ { tmps := #[.pointer (some ⟨g, 0, none⟩), undef, undef, undef, .iface 73 (.agg #[.iface 79 (.agg #[.int .i64 c])]), undef, undef, undef, undef, undef, undef, undef], defers := [] } _
  go_wp2
  exact ⟨rfl, _, rfl, .tuple #[], results_none rfl _ _ _, rfl, rfl, rfl⟩
end Go.Proofs.YtdommkpeilmdnaaDoor
