import Derived.Test.YtdommkpeilmdnaaDoorRdK
import Derived.Defers
import Derived.Recover
namespace Go.Proofs.YtdommkpeilmdnaaDoor
open Go.RowKit
set_option linter.unusedVariables false

set_option maxRecDepth 20000 in
set_option maxHeartbeats 1000000 in
theorem rbH_bad (ao : Option Addr) (n cap : Nat) (a1 a2 a3 : Value) (c : Int) (w : World) (Q : World → Prop)
    (hcl : Calls Tryd.prog 23 #[.pointer (some ⟨w.heap.size + 1, 0, none⟩), a1, a2, a3] ((w.alloc (.cells #[.nilIface] 50)).alloc (.cells #[.slice ao n cap, .int .i64 0] 54)) fun e w' => e = .panicked [leftP c] ∧ Q w')
    (hQ : ∀ w', Q w' → w'.heap[w.heap.size]? = some (.cells #[.nilIface] 50 (0, 0))) :
    Calls Tryd.prog 22 #[.slice ao n cap, .func (.func 23) #[] #[a1, a2, a3]] w fun e w'' => e = .returned (faultV c) ∧ ∃ w', Q w' ∧ w'' = (w'.setCell ⟨w.heap.size, 0, none⟩ (faultV c)).alloc (.cells #[faultV c] 73) := by
  have hmf : ∀ (fn : Fn) (first cap : Array Value) (w : World), (Instr.makeFunc fn first cap).run Tryd.prog w = .ok (.func fn first cap) w := fun _ _ _ _ => rfl
  go_enter_defers Tryd.func22, Tryd.ntmps22
  go_wp2_with fail
  go_at_call 23
  refine hcl.mono ?_
  rintro e w' ⟨rfl, hq⟩
  have hb := hQ w' hq
  go_wp2_with fail
  refine leaves_cons (f := 41) (args := #[.pointer (some ⟨w.heap.size, 0, none⟩)]) (by simp) (by simp [go_sem]) ?_
  refine (catch_left w.heap.size c [] w' hb).mono ?_
  rintro e u' w'' ⟨rfl, rfl, rfl⟩
  have hc : ((w'.setCell ⟨w.heap.size, 0, none⟩ (faultV c)).alloc (.cells #[faultV c] 73)).cell? ⟨w.heap.size, 0, none⟩ = some (faultV c) := by
    have h1 := bk_set hb 0 (faultV c)
    have h2 : w.heap.size < (w'.setCell ⟨w.heap.size, 0, none⟩ (faultV c)).heap.size := (Array.getElem?_eq_some_iff.1 h1).1
    rw [World.cell?_alloc_lt _ _ ⟨w.heap.size, 0, none⟩ h2]
    exact (bk_cell h1 0).trans rfl
  simp [Leaves, settle, results, Tryd.results22, go_sem, hc]
  exact ⟨w', hq, rfl⟩
set_option maxRecDepth 20000 in
set_option maxHeartbeats 1000000 in
theorem rbH_ok (ao : Option Addr) (n cap : Nat) (a1 a2 a3 : Value) (w : World) (Q : World → Prop)
    (hcl : Calls Tryd.prog 23 #[.pointer (some ⟨w.heap.size + 1, 0, none⟩), a1, a2, a3] ((w.alloc (.cells #[.nilIface] 50)).alloc (.cells #[.slice ao n cap, .int .i64 0] 54)) fun e w' => e = .returned (.tuple #[]) ∧ Q w')
    (hQ : ∀ w', Q w' → w'.heap[w.heap.size]? = some (.cells #[.nilIface] 50 (0, 0))) :
    Calls Tryd.prog 22 #[.slice ao n cap, .func (.func 23) #[] #[a1, a2, a3]] w fun e w'' => e = .returned .nilIface ∧ ∃ w', Q w' ∧ w'' = w'.setCell ⟨w.heap.size, 0, none⟩ .nilIface := by
  have hmf : ∀ (fn : Fn) (first cap : Array Value) (w : World), (Instr.makeFunc fn first cap).run Tryd.prog w = .ok (.func fn first cap) w := fun _ _ _ _ => rfl
  go_enter_defers Tryd.func22, Tryd.ntmps22
  go_wp2_with fail
  go_at_call 23
  refine hcl.mono ?_
  rintro e w' ⟨rfl, hq⟩
  have hb := hQ w' hq
  have c0 : w'.cell? ⟨w.heap.size, 0, none⟩ = some .nilIface := (bk_cell hb 0).trans rfl
  have f0 : w'.frozen? ⟨w.heap.size, 0, none⟩ = false := bk_free hb 0
  go_wp2_with fail
  refine leaves_cons (f := 41) (args := #[.pointer (some ⟨w.heap.size, 0, none⟩)]) (by simp) (by simp [go_sem]) ?_
  refine (catch_idle ⟨w.heap.size, 0, none⟩ _).mono ?_
  rintro e u' w'' ⟨rfl, rfl, rfl⟩
  have hc : (w'.setCell ⟨w.heap.size, 0, none⟩ .nilIface).cell? ⟨w.heap.size, 0, none⟩ = some .nilIface := (bk_cell (bk_set hb 0 .nilIface) 0).trans rfl
  simp [Leaves, settle, results, Tryd.results22, go_sem, hc]
  exact ⟨w', hq, rfl⟩
set_option maxRecDepth 20000 in
set_option maxHeartbeats 1000000 in
theorem rbP_bad (ao : Option Addr) (n cap : Nat) (a1 : Value) (c : Int) (w : World) (Q : World → Prop)
    (hcl : Calls Tryd.prog 27 #[a1, .pointer (some ⟨w.heap.size + 1, 0, none⟩)] ((w.alloc (.cells #[.nilIface] 50)).alloc (.cells #[.slice ao n cap, .int .i64 0] 54)) fun e w' => e = .panicked [leftP c] ∧ Q w')
    (hQ : ∀ w', Q w' → w'.heap[w.heap.size]? = some (.cells #[.nilIface] 50 (0, 0))) :
    Calls Tryd.prog 22 #[.slice ao n cap, .func (.func 27) #[a1] #[]] w fun e w'' => e = .returned (faultV c) ∧ ∃ w', Q w' ∧ w'' = (w'.setCell ⟨w.heap.size, 0, none⟩ (faultV c)).alloc (.cells #[faultV c] 73) := by
  have hmf : ∀ (fn : Fn) (first cap : Array Value) (w : World), (Instr.makeFunc fn first cap).run Tryd.prog w = .ok (.func fn first cap) w := fun _ _ _ _ => rfl
  go_enter_defers Tryd.func22, Tryd.ntmps22
  go_wp2_with fail
  go_at_call 27
  refine hcl.mono ?_
  rintro e w' ⟨rfl, hq⟩
  have hb := hQ w' hq
  go_wp2_with fail
  refine leaves_cons (f := 41) (args := #[.pointer (some ⟨w.heap.size, 0, none⟩)]) (by simp) (by simp [go_sem]) ?_
  refine (catch_left w.heap.size c [] w' hb).mono ?_
  rintro e u' w'' ⟨rfl, rfl, rfl⟩
  have hc : ((w'.setCell ⟨w.heap.size, 0, none⟩ (faultV c)).alloc (.cells #[faultV c] 73)).cell? ⟨w.heap.size, 0, none⟩ = some (faultV c) := by
    have h1 := bk_set hb 0 (faultV c)
    have h2 : w.heap.size < (w'.setCell ⟨w.heap.size, 0, none⟩ (faultV c)).heap.size := (Array.getElem?_eq_some_iff.1 h1).1
    rw [World.cell?_alloc_lt _ _ ⟨w.heap.size, 0, none⟩ h2]
    exact (bk_cell h1 0).trans rfl
  simp [Leaves, settle, results, Tryd.results22, go_sem, hc]
  exact ⟨w', hq, rfl⟩
set_option maxRecDepth 20000 in
set_option maxHeartbeats 1000000 in
theorem rbP_ok (ao : Option Addr) (n cap : Nat) (a1 : Value) (w : World) (Q : World → Prop)
    (hcl : Calls Tryd.prog 27 #[a1, .pointer (some ⟨w.heap.size + 1, 0, none⟩)] ((w.alloc (.cells #[.nilIface] 50)).alloc (.cells #[.slice ao n cap, .int .i64 0] 54)) fun e w' => e = .returned (.tuple #[]) ∧ Q w')
    (hQ : ∀ w', Q w' → w'.heap[w.heap.size]? = some (.cells #[.nilIface] 50 (0, 0))) :
    Calls Tryd.prog 22 #[.slice ao n cap, .func (.func 27) #[a1] #[]] w fun e w'' => e = .returned .nilIface ∧ ∃ w', Q w' ∧ w'' = w'.setCell ⟨w.heap.size, 0, none⟩ .nilIface := by
  have hmf : ∀ (fn : Fn) (first cap : Array Value) (w : World), (Instr.makeFunc fn first cap).run Tryd.prog w = .ok (.func fn first cap) w := fun _ _ _ _ => rfl
  go_enter_defers Tryd.func22, Tryd.ntmps22
  go_wp2_with fail
  go_at_call 27
  refine hcl.mono ?_
  rintro e w' ⟨rfl, hq⟩
  have hb := hQ w' hq
  have c0 : w'.cell? ⟨w.heap.size, 0, none⟩ = some .nilIface := (bk_cell hb 0).trans rfl
  have f0 : w'.frozen? ⟨w.heap.size, 0, none⟩ = false := bk_free hb 0
  go_wp2_with fail
  refine leaves_cons (f := 41) (args := #[.pointer (some ⟨w.heap.size, 0, none⟩)]) (by simp) (by simp [go_sem]) ?_
  refine (catch_idle ⟨w.heap.size, 0, none⟩ _).mono ?_
  rintro e u' w'' ⟨rfl, rfl, rfl⟩
  have hc : (w'.setCell ⟨w.heap.size, 0, none⟩ .nilIface).cell? ⟨w.heap.size, 0, none⟩ = some .nilIface := (bk_cell (bk_set hb 0 .nilIface) 0).trans rfl
  simp [Leaves, settle, results, Tryd.results22, go_sem, hc]
  exact ⟨w', hq, rfl⟩

set_option maxRecDepth 20000 in
set_option maxHeartbeats 1000000 in
/-- A number where none can be read, whatever the reason. -/
theorem variable_bad (g : Nat) (ao : Option Addr) (n cap : Nat) (p c : Int) (xs : List Int) (w : World) (ht : Tab w) (h : rdB w g (.slice ao n cap) p) (hr0 : Row w .u8 (.slice ao n cap) xs) (hB : Bytes xs) (hn : n ≤ 9223372036854775807) (hlen : xs.length = n) (hv : gv xs p = (0, 0, c)) (hc : c ≠ 0) :
    Calls Tryd.prog 24 #[.pointer (some ⟨g, 0, none⟩)] w fun e w' => e = .panicked [leftP c] ∧ Chg (· = g) w w' := by
  have hr : Row w.drew .u8 (.slice ao n cap) xs := hr0.drewN 1
  have hg := implGetVar _ xs p w.drew (ht.below (B := w.heap.size) ⟨rfl, rfl, rfl, Nat.le_refl _, fun _ _ => rfl⟩ ht.lt) hr hB (by omega)
  rw [hv] at hg
  dsimp only at hg
  have c0 : w.drew.cell? ⟨g, 0, none⟩ = _ := h.c0
  have c1 : w.drew.cell? ⟨g, 1, none⟩ = _ := h.c1
  have hc' : (c != 0) = true := by simp [hc]
  clear h hr hv hr0 hc
  go_enter Tryd.func24, Tryd.ntmps24
  go_wp2_with fail
  go_region_with (go_at_call 42; refine hg.mono ?_; rintro e w2 ⟨rfl, hw2⟩; rw [hw2]; clear hw2 w2)
  all_goals (go_wp2_with fail; go_at_call 25; refine (leaveIf_t _ c _).mono ?_; rintro e w3 ⟨rfl, hw3⟩; rw [hw3]; clear hw3 w3; go_wp2_with fail)
  all_goals (exact ⟨rfl, rfl, ⟨rfl, rfl, rfl, Nat.le_refl _, fun _ _ _ => rfl⟩⟩)
end Go.Proofs.YtdommkpeilmdnaaDoor
