import Derived.Test.YtjdmknlcjejecaaIParts
namespace Go.Proofs.Ytjdmknlcjejecaa
open Go.RowKit
set_option linter.unusedVariables false

def digestV (ks ds : List Int) : List Int := if ks.length ≤ 65536 ∧ ds.length ≤ 65536 then digV ks ds else []
theorem digestV_length (ks ds : List Int) : (digestV ks ds).length ≤ 16 := by
  unfold digestV
  split
  · rw [digV_length]; decide
  · decide

theorem owns_empty (w : World) (e : TypeId) : (w.alloc (.cells #[] e)).ownsRow w.heap.size e 1 (.slice (some ⟨w.heap.size, 0, none⟩) 0 0) 0 [] :=
  ⟨rfl, Or.inr ⟨w.heap.size, 0, #[], rfl, Nat.le_refl _, (MapKept.heap_alloc w _).1, Nat.le_refl _, Nat.zero_le _, rfl, rfl⟩⟩
end Go.Proofs.Ytjdmknlcjejecaa
