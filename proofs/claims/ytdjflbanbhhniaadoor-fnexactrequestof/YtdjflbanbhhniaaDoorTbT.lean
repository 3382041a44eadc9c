import Derived.Test.YtdjflbanbhhniaaDoorTbZ
import Derived.Test.YtdjflbanbhhniaaDoorBlocks
import Derived.Laws.Rows
namespace Go.Proofs.YtdjflbanbhhniaaDoor
open Go.RowKit
set_option linter.unusedVariables false

theorem gown_set {T : TypeId} {K g i base : Nat} {wx : World} {u v : Value} {L : List (List Value)} (h : GOwns T K wx base v L) (hb : g < base) : GOwns T K (wx.setCell ⟨g, i, none⟩ u) base v L :=
  GOwns.only (Only.setCell (w := wx) ⟨g, i, none⟩ u) h (fun k hk e => by obtain ⟨zs, ho, _⟩ := h; have := (ho.lt k hk).1; have := Option.some.inj e; simp only at this; omega)
end Go.Proofs.YtdjflbanbhhniaaDoor
