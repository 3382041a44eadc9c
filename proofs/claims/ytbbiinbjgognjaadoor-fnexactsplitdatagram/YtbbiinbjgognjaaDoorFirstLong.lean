import Derived.Test.YtbbiinbjgognjaaDoorMem
namespace Go.Proofs.YtbbiinbjgognjaaDoor
open Go.RowKit
set_option linter.unusedVariables false
set_option linter.unusedSimpArgs false

/-- The table of the forms of long heads, as the program's text lays it. -/
structure TabL (w : World) : Prop where
  t0 : w.cell? ⟨1, 0, none⟩ = some (.int .i64 1)
  t1 : w.cell? ⟨1, 1, none⟩ = some (.int .i64 0)
  t2 : w.cell? ⟨1, 2, none⟩ = some (.int .i64 2)
  t3 : w.cell? ⟨1, 3, none⟩ = some (.int .i64 3)
theorem TabL.below {w w' : World} {B : Nat} (h : TabL w) (hb : Below B w w') (h0 : 1 < B) : TabL w' :=
  ⟨(hb.cell (p := ⟨1, 0, none⟩) h0).trans h.t0, (hb.cell (p := ⟨1, 1, none⟩) h0).trans h.t1, (hb.cell (p := ⟨1, 2, none⟩) h0).trans h.t2, (hb.cell (p := ⟨1, 3, none⟩) h0).trans h.t3⟩
theorem TabL.lt {w : World} (h : TabL w) : 1 < w.heap.size := by
  have := h.t0
  refine Nat.lt_of_not_le (fun hn => ?_)
  have e : w.heap[1]? = none := Array.getElem?_eq_none (by omega)
  simp [World.cell?, e] at this
theorem infoI : (Tryd.prog.info? 3).map (fun i => (i.zero, i.size, i.bytes)) = some (some (.int .i64 0), 1, 8) := by kernel_rfl
theorem idxL (j : Nat) (a : Int) (w : World) (hj : j < 4) (ha : (#[Value.int .i64 1, .int .i64 0, .int .i64 2, .int .i64 3])[j]? = some (.int .i64 a)) : (Instr.index 118 (.agg #[.int .i64 1, .int .i64 0, .int .i64 2, .int .i64 3]) (.int .i64 (j : Int))).run Tryd.prog w = .ok (.int .i64 a) w := by
  obtain ⟨i0, hi, hz0, hz1, hz2⟩ := info_parts infoI
  have hu := run_underlying (P := Tryd.prog) (w := w) Tryd.underlying118
  rcases (show j = 0 ∨ j = 1 ∨ j = 2 ∨ j = 3 by omega) with rfl | rfl | rfl | rfl <;> (simp at ha; subst ha; simp [Instr.index, hu, sizeOf, typeInfo, hi, hz1, asInt, asIntOf, part])
end Go.Proofs.YtbbiinbjgognjaaDoor
