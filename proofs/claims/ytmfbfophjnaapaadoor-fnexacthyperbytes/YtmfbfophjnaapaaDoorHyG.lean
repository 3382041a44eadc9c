import Derived.Test.YtmfbfophjnaapaaDoorHyF
namespace Go.Proofs.YtmfbfophjnaapaaDoor
open Go.RowKit
set_option linter.unusedVariables false

def AfterH (w : World) (o : Obj) (w1 : World) : Prop := Below (w.heap.size + 1) (w.alloc o) w1
theorem AfterH.next {w w1 w2 : World} {o : Obj} (h : AfterH w o w1) (hb : Below w1.heap.size w1 w2) : AfterH w o w2 :=
  Below.trans h (hb.mono (by have := Below.size h; simpa using this))
theorem AfterH.new (w : World) (o : Obj) : AfterH w o (w.alloc o) := Below.refl _ _
theorem AfterH.below {w w1 : World} {o : Obj} (h : AfterH w o w1) : Below w.heap.size w w1 :=
  ((Below.refl w.heap.size w).alloc (Nat.le_refl _) o).trans (Below.mono h (by simp))
theorem drew_belowH (w : World) : Below w.heap.size w w.drew := below_drewN (Below.refl _ _) 1
end Go.Proofs.YtmfbfophjnaapaaDoor
