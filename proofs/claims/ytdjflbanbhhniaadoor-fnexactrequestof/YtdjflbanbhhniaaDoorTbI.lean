import Derived.Test.YtdjflbanbhhniaaDoorTbS
namespace Go.Proofs.YtdjflbanbhhniaaDoor
open Go.RowKit
set_option linter.unusedVariables false

theorem fd_cells {w w1 : World} {a c : ByteArray} {t : TypeId} (hb : Below (w.heap.size + 1) (w.alloc (.cells #[.string a, .string c] t)) w1) :
    w1.cell? ⟨w.heap.size, 0, none⟩ = some (.string a) ∧ w1.cell? ⟨w.heap.size, 1, none⟩ = some (.string c) := by
  have k := (hb.block w.heap.size (by omega)).trans (MapKept.heap_alloc w (.cells #[.string a, .string c] t)).1
  simp only [World.cell?, k]
  exact ⟨rfl, rfl⟩
end Go.Proofs.YtdjflbanbhhniaaDoor
