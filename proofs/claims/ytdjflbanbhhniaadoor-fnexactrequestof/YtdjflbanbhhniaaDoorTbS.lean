import Derived.Test.YtdjflbanbhhniaaDoorTbA
namespace Go.Proofs.YtdjflbanbhhniaaDoor
open Go.RowKit
set_option linter.unusedVariables false

def tC (mo ca ad : Int) (s : Value) : Array Value := #[.int .i64 mo, .int .i64 ca, .int .i64 ad, s]
theorem tb_cells {w w1 : World} {mo ca ad : Int} {s : Value} {t : TypeId} (hb : Below (w.heap.size + 1) (w.alloc (.cells #[.int .i64 mo, .int .i64 ca, .int .i64 ad, s] t)) w1) :
    w1.cell? ⟨w.heap.size, 0, none⟩ = some (.int .i64 mo) ∧ w1.cell? ⟨w.heap.size, 1, none⟩ = some (.int .i64 ca) ∧ w1.cell? ⟨w.heap.size, 2, none⟩ = some (.int .i64 ad) ∧ w1.cell? ⟨w.heap.size, 3, none⟩ = some s := by
  have k := (hb.block w.heap.size (by omega)).trans (MapKept.heap_alloc w (.cells #[.int .i64 mo, .int .i64 ca, .int .i64 ad, s] t)).1
  simp only [World.cell?, k]
  exact ⟨rfl, rfl, rfl, rfl⟩
theorem tb_below {w w1 : World} {o : Obj} (hb : Below (w.heap.size + 1) (w.alloc o) w1) : Below w.heap.size w w1 :=
  ((Below.refl _ _).alloc (Nat.le_refl _) o).trans (hb.mono (by omega))
end Go.Proofs.YtdjflbanbhhniaaDoor
