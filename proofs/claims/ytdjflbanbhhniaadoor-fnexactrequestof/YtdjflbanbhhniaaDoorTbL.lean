import Derived.Test.YtdjflbanbhhniaaDoorTbI
import Derived.Test.YtdjflbanbhhniaaDoorTbT
import Derived.Deep.RegionWith
namespace Go.Proofs.YtdjflbanbhhniaaDoor
open Go.RowKit
set_option linter.unusedVariables false

/-- The world behind the boxing of a table, and what comes later. -/
def After (w : World) (o : Obj) (w1 : World) : Prop := Below (w.heap.size + 1) (w.alloc o) w1
theorem After.next {w w1 w2 : World} {o : Obj} (h : After w o w1) (hb : Below w1.heap.size w1 w2) : After w o w2 :=
  Below.trans h (hb.mono (by have := Below.size h; simpa using this))
theorem After.below {w w1 : World} {o : Obj} (h : After w o w1) : Below w.heap.size w w1 := tb_below h
theorem After.new (w : World) (o : Obj) : After w o (w.alloc o) := Below.refl _ _
theorem After.cells {w w1 : World} {mo ca ad : Int} {s : Value} {t : TypeId} (h : After w (.cells #[.int .i64 mo, .int .i64 ca, .int .i64 ad, s] t) w1) :
    w1.cell? ⟨w.heap.size, 0, none⟩ = some (.int .i64 mo) ∧ w1.cell? ⟨w.heap.size, 1, none⟩ = some (.int .i64 ca) ∧ w1.cell? ⟨w.heap.size, 2, none⟩ = some (.int .i64 ad) ∧ w1.cell? ⟨w.heap.size, 3, none⟩ = some s := tb_cells h
theorem drew_below (w : World) : Below w.heap.size w w.drew := below_drewN (Below.refl _ _) 1
end Go.Proofs.YtdjflbanbhhniaaDoor
