import Derived.Test.YteggfkekgdlecaaGreatDoorKeys
import Derived.Test.YteggfkekgdlecaaGreatDoorMarkBytes
namespace Go.Proofs.YteggfkekgdlecaaGreatDoor
open Go.RowKit
set_option linter.unusedVariables false

theorem kblk_cell {w : World} {g : Nat} {c : Array Value} {t : TypeId} {fr : Nat × Nat} (h : w.heap[g]? = some (.cells c t fr)) (o : Nat) : w.cell? ⟨g, o, none⟩ = c[o]? := by
  simp [World.cell?, h]
theorem Only.mark {g : Option Nat} {w w' : World} {b : Nat} {o : Obj} (h : Only g w w') (hb : w.heap[b]? = some o) (hne : g ≠ some b) : w'.heap[b]? = some o := (h.block b (fun e => hne e.symm)).trans hb

end Go.Proofs.YteggfkekgdlecaaGreatDoor
