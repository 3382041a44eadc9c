import Derived.Test.YthjakbpcpfmbjaaFuU
import Derived.Test.YthjakbpcpfmbjaaEqBytes
import Derived.Test.YthjakbpcpfmbjaaMarkBytes
import Derived.Deep.LoopGhost
import Derived.Deep.Cut
import Derived.Deep.CutRange
import Derived.Deep.RegionWith
namespace Go.Proofs.Ythjakbpcpfmbjaa
open Go.RowKit
set_option linter.unusedVariables false

theorem row_nil8 (w : World) : Row w .u8 (.slice none 0 0) [] := Or.inl ⟨rfl, none, 0, rfl⟩
theorem frC_at (L : List (Int × Int × Int)) (j : Nat) (h : j < L.length) : (L.map frC).getD j [] = frC (L.getD j default) := map_at _ L default j h
end Go.Proofs.Ythjakbpcpfmbjaa
