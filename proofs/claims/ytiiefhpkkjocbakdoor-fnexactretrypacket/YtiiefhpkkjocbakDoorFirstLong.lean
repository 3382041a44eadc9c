import Derived.Test.YtiiefhpkkjocbakDoorMem
namespace Go.Proofs.YtiiefhpkkjocbakDoor
open Go.RowKit
set_option linter.unusedVariables false
set_option linter.unusedSimpArgs false

/-- The table of the forms of long heads, as the program's text lays it. -/
structure TabL (w : World) : Prop where
  t0 : w.cell? ⟨0, 0, none⟩ = some (.int .i64 1)
  t1 : w.cell? ⟨0, 1, none⟩ = some (.int .i64 0)
  t2 : w.cell? ⟨0, 2, none⟩ = some (.int .i64 2)
  t3 : w.cell? ⟨0, 3, none⟩ = some (.int .i64 3)
theorem TabL.below {w w' : World} {B : Nat} (h : TabL w) (hb : Below B w w') (h0 : 0 < B) : TabL w' :=
  ⟨(hb.cell (p := ⟨0, 0, none⟩) h0).trans h.t0, (hb.cell (p := ⟨0, 1, none⟩) h0).trans h.t1, (hb.cell (p := ⟨0, 2, none⟩) h0).trans h.t2, (hb.cell (p := ⟨0, 3, none⟩) h0).trans h.t3⟩
theorem TabL.lt {w : World} (h : TabL w) : 0 < w.heap.size := by
  have := h.t0
  refine Nat.lt_of_not_le (fun hn => ?_)
  have e : w.heap[0]? = none := Array.getElem?_eq_none (by omega)
  simp [World.cell?, e] at this
theorem infoI : (Tryd.prog.info? 3).map (fun i => (i.zero, i.size, i.bytes)) = some (some (.int .i64 0), 1, 8) := by kernel_rfl
theorem idxL (j : Nat) (a : Int) (w : World) (hj : j < 4) (ha : (#[Value.int .i64 1, .int .i64 0, .int .i64 2, .int .i64 3])[j]? = some (.int .i64 a)) : (Instr.index 80 (.agg #[.int .i64 1, .int .i64 0, .int .i64 2, .int .i64 3]) (.int .i64 (j : Int))).run Tryd.prog w = .ok (.int .i64 a) w := by
  obtain ⟨i0, hi, hz0, hz1, hz2⟩ := info_parts infoI
  have hu := run_underlying (P := Tryd.prog) (w := w) Tryd.underlying80
  rcases (show j = 0 ∨ j = 1 ∨ j = 2 ∨ j = 3 by omega) with rfl | rfl | rfl | rfl <;> (simp at ha; subst ha; simp [Instr.index, hu, sizeOf, typeInfo, hi, hz1, asInt, asIntOf, part])
set_option maxRecDepth 20000 in
set_option maxHeartbeats 1000000 in
theorem firstRetry (w : World) (h : TabL w) : Calls Tryd.prog 40 #[.int .i64 3] w fun e w' => e = .returned (.int .u8 240) ∧ w' = w := by
  obtain ⟨h0, h1, h2, h3⟩ := h
  have x0 : ∀ w, (Instr.index 80 (.agg #[.int .i64 1, .int .i64 0, .int .i64 2, .int .i64 3]) (.int .i64 0)).run Tryd.prog w = .ok (.int .i64 1) w := fun w => idxL 0 1 w (by decide) rfl
  have x1 : ∀ w, (Instr.index 80 (.agg #[.int .i64 1, .int .i64 0, .int .i64 2, .int .i64 3]) (.int .i64 1)).run Tryd.prog w = .ok (.int .i64 0) w := fun w => idxL 1 0 w (by decide) rfl
  have x2 : ∀ w, (Instr.index 80 (.agg #[.int .i64 1, .int .i64 0, .int .i64 2, .int .i64 3]) (.int .i64 2)).run Tryd.prog w = .ok (.int .i64 2) w := fun w => idxL 2 2 w (by decide) rfl
  have x3 : ∀ w, (Instr.index 80 (.agg #[.int .i64 1, .int .i64 0, .int .i64 2, .int .i64 3]) (.int .i64 3)).run Tryd.prog w = .ok (.int .i64 3) w := fun w => idxL 3 3 w (by decide) rfl
  go_enter Tryd.func40, Tryd.ntmps40
  go_wp2_with fail
  refine wp_loop_rounds 4 ?_
  rw [rounds_succ]
  go_wp2_with fail
  rw [rounds_succ]
  go_wp2_with fail
  rw [rounds_succ]
  go_wp2_with fail
  rw [rounds_succ]
  go_wp2
  go_ret
  exact ⟨rfl, rfl⟩
end Go.Proofs.YtiiefhpkkjocbakDoor
