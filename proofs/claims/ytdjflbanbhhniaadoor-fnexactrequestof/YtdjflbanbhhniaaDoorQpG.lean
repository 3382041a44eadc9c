import Derived.Test.YtdjflbanbhhniaaDoorQpF
import Derived.Laws.EntriesVeiled
namespace Go.Proofs.YtdjflbanbhhniaaDoor
open Go.RowKit
set_option linter.unusedVariables false

/-- A valid response. -/
def rsOK (st : Int) (L : List SField) : Bool := decide (100 ≤ st ∧ st ≤ 599) && mfOK L
theorem cel2 {w u : World} {x0 x1 : Value} {t : TypeId} (hb : Below (w.heap.size + 1) (w.alloc (.cells #[x0, x1] t)) u) : u.cell? ⟨w.heap.size, 0, none⟩ = some x0 ∧ u.cell? ⟨w.heap.size, 1, none⟩ = some x1 := by
  have k := (hb.block w.heap.size (by omega)).trans (MapKept.heap_alloc w (.cells #[x0, x1] t)).1
  simp only [World.cell?, k]
  exact ⟨rfl, rfl⟩
end Go.Proofs.YtdjflbanbhhniaaDoor
