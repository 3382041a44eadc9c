import Derived.Test.YtbbiinbjgognjaaDoorRdM
import Derived.Defers
import Derived.Recover
namespace Go.Proofs.YtbbiinbjgognjaaDoor
open Go.RowKit
set_option linter.unusedVariables false

set_option maxRecDepth 20000 in
theorem catch_idle (p : Addr) (w : World) :
    CallsD Tryd.prog 54 #[.pointer (some p)] .returning w fun e u' w' => e = .returned (.tuple #[]) ∧ u' = .returning ∧ w' = w := by
  refine callsD_of_wpS Tryd.func54 rfl fun c₀ cs hu => ?_
  apply wpS_seq
  apply wpS_region
  simp [wpOpsS, go_sem, recoverD, hu, Tryd.ntmps54, Exit.thenS]
  refine wpS_of_wp ?_
  go_wp2
  cases c₀
  simp_all [bodyPostS, results, Tryd.results54]
theorem taLeft (x : TypeId) (v : Value) (w : World) : (Instr.typeAssert (.iface 85 v) x 85 true).run Tryd.prog w = .ok (.tuple #[v, .bool true]) w := by
  have hr := run_underlying Tryd.underlying85 w
  simp_all [Instr.typeAssert, go_sem]
/-- The error that a code becomes. -/
def faultV (c : Int) : Value := .iface 75 (.agg #[.int .i64 c])
set_option maxRecDepth 20000 in
theorem catch_left (g : Nat) (c : Int) (older : List PanicEntry) (w : World) (hc : w.heap[g]? = some (.cells #[.nilIface] 48 (0, 0))) :
    CallsD Tryd.prog 54 #[.pointer (some ⟨g, 0, none⟩)] (.panicking (leftP c :: older)) w fun e u' w' => e = .returned (.tuple #[]) ∧ u' = .panicking ({ v := leftV c, recovered := true } :: older) ∧
      w' = (w.setCell ⟨g, 0, none⟩ (faultV c)).alloc (.cells #[faultV c] 85) := by
  have c0 : w.cell? ⟨g, 0, none⟩ = some .nilIface := (bk_cell hc 0).trans rfl
  have f0 : w.frozen? ⟨g, 0, none⟩ = false := bk_free hc 0
  have hlt : g < w.heap.size := (Array.getElem?_eq_some_iff.1 hc).1
  have hne : ¬ g = w.heap.size := by omega
  refine callsD_of_wpS Tryd.func54 rfl fun c₀ cs hu => ?_
  apply wpS_seq
  apply wpS_region
  simp [wpOpsS, go_sem, recoverD, hu, Tryd.ntmps54, Exit.thenS, leftP]
  refine wpS_of_wp ?_
  unfold leftV
  have ta := taLeft
  change Code.wp _ _ _ { tmps := #[.pointer (some ⟨g, 0, none⟩), undef, undef, undef, .iface 85 (.agg #[.iface 75 (.agg #[.int .i64 c])]), undef, undef, undef, undef, undef, undef, undef], defers := [] } _
  go_wp2
  exact ⟨rfl, _, rfl, .tuple #[], results_none rfl _ _ _, rfl, rfl, rfl⟩
set_option maxRecDepth 20000 in
set_option maxHeartbeats 1000000 in
theorem readBytes_bad (ao : Option Addr) (n cap : Nat) (a1 a2 a3 : Value) (c : Int) (w : World) (Q : World → Prop)
    (hcl : Calls Tryd.prog 42 #[.pointer (some ⟨w.heap.size + 1, 0, none⟩), a1, a2, a3] ((w.alloc (.cells #[.nilIface] 48)).alloc (.cells #[.slice ao n cap, .int .i64 0] 87)) fun e w' => e = .panicked [leftP c] ∧ Q w')
    (hQ : ∀ w', Q w' → w'.heap[w.heap.size]? = some (.cells #[.nilIface] 48 (0, 0))) :
    Calls Tryd.prog 41 #[.slice ao n cap, .func (.func 42) #[] #[a1, a2, a3]] w fun e w'' => e = .returned (faultV c) ∧ ∃ w', Q w' ∧ w'' = (w'.setCell ⟨w.heap.size, 0, none⟩ (faultV c)).alloc (.cells #[faultV c] 85) := by
  have hmf : ∀ (fn : Fn) (first cap : Array Value) (w : World), (Instr.makeFunc fn first cap).run Tryd.prog w = .ok (.func fn first cap) w := fun _ _ _ _ => rfl
  go_enter_defers Tryd.func41, Tryd.ntmps41
  go_wp2_with fail
  go_at_call 42
  refine hcl.mono ?_
  rintro e w' ⟨rfl, hq⟩
  have hb := hQ w' hq
  go_wp2_with fail
  refine leaves_cons (f := 54) (args := #[.pointer (some ⟨w.heap.size, 0, none⟩)]) (by simp) (by simp [go_sem]) ?_
  refine (catch_left w.heap.size c [] w' hb).mono ?_
  rintro e u' w'' ⟨rfl, rfl, rfl⟩
  have hc : ((w'.setCell ⟨w.heap.size, 0, none⟩ (faultV c)).alloc (.cells #[faultV c] 85)).cell? ⟨w.heap.size, 0, none⟩ = some (faultV c) := by
    have h1 := bk_set hb 0 (faultV c)
    have h2 : w.heap.size < (w'.setCell ⟨w.heap.size, 0, none⟩ (faultV c)).heap.size := (Array.getElem?_eq_some_iff.1 h1).1
    rw [World.cell?_alloc_lt _ _ ⟨w.heap.size, 0, none⟩ h2]
    exact (bk_cell h1 0).trans rfl
  simp [Leaves, settle, results, Tryd.results41, go_sem, hc]
  exact ⟨w', hq, rfl⟩
set_option maxRecDepth 20000 in
set_option maxHeartbeats 1000000 in
theorem readBytes_ok (ao : Option Addr) (n cap : Nat) (a1 a2 a3 : Value) (w : World) (Q : World → Prop)
    (hcl : Calls Tryd.prog 42 #[.pointer (some ⟨w.heap.size + 1, 0, none⟩), a1, a2, a3] ((w.alloc (.cells #[.nilIface] 48)).alloc (.cells #[.slice ao n cap, .int .i64 0] 87)) fun e w' => e = .returned (.tuple #[]) ∧ Q w')
    (hQ : ∀ w', Q w' → w'.heap[w.heap.size]? = some (.cells #[.nilIface] 48 (0, 0))) :
    Calls Tryd.prog 41 #[.slice ao n cap, .func (.func 42) #[] #[a1, a2, a3]] w fun e w'' => e = .returned .nilIface ∧ ∃ w', Q w' ∧ w'' = w'.setCell ⟨w.heap.size, 0, none⟩ .nilIface := by
  have hmf : ∀ (fn : Fn) (first cap : Array Value) (w : World), (Instr.makeFunc fn first cap).run Tryd.prog w = .ok (.func fn first cap) w := fun _ _ _ _ => rfl
  go_enter_defers Tryd.func41, Tryd.ntmps41
  go_wp2_with fail
  go_at_call 42
  refine hcl.mono ?_
  rintro e w' ⟨rfl, hq⟩
  have hb := hQ w' hq
  have c0 : w'.cell? ⟨w.heap.size, 0, none⟩ = some .nilIface := (bk_cell hb 0).trans rfl
  have f0 : w'.frozen? ⟨w.heap.size, 0, none⟩ = false := bk_free hb 0
  go_wp2_with fail
  refine leaves_cons (f := 54) (args := #[.pointer (some ⟨w.heap.size, 0, none⟩)]) (by simp) (by simp [go_sem]) ?_
  refine (catch_idle ⟨w.heap.size, 0, none⟩ _).mono ?_
  rintro e u' w'' ⟨rfl, rfl, rfl⟩
  have hc : (w'.setCell ⟨w.heap.size, 0, none⟩ .nilIface).cell? ⟨w.heap.size, 0, none⟩ = some .nilIface := (bk_cell (bk_set hb 0 .nilIface) 0).trans rfl
  simp [Leaves, settle, results, Tryd.results41, go_sem, hc]
  exact ⟨w', hq, rfl⟩
end Go.Proofs.YtbbiinbjgognjaaDoor
