import Derived.Test.YtdommkpeilmdnaaDoorHyD
import Derived.Test.YtdommkpeilmdnaaDoorSzBytes
import Derived.Test.YtdommkpeilmdnaaDoorToBytes
import Derived.Test.YtdommkpeilmdnaaDoorEqBytes
import Derived.Test.YtdommkpeilmdnaaDoorBlocks
import Derived.Laws.Rows
namespace Go.Proofs.YtdommkpeilmdnaaDoor
open Go.RowKit
set_option linter.unusedVariables false

theorem infoHF : (Tryd.prog.info? 26).map (·.size) = some 4 := by kernel_rfl
def hV (f : HF) (d s : Value) : Value := .agg #[.int .i64 f.k, .int .i64 f.a, d, s]
theorem gown_setH {T : TypeId} {K g i base : Nat} {wx : World} {u v : Value} {L : List (List Value)} (h : GOwns T K wx base v L) (hb : g < base) : GOwns T K (wx.setCell ⟨g, i, none⟩ u) base v L :=
  GOwns.only (Only.setCell (w := wx) ⟨g, i, none⟩ u) h (fun k hk e => by obtain ⟨zs, ho, _⟩ := h; have := (ho.lt k hk).1; have := Option.some.inj e; simp only at this; omega)
theorem own_setH {e n g i base : Nat} {wx : World} {u v : Value} {xs : List Value} (h : wx.ownsRow base e 1 v n xs) (hb : g < base) : (wx.setCell ⟨g, i, none⟩ u).ownsRow base e 1 v n xs :=
  (Only.setCell (w := wx) ⟨g, i, none⟩ u).owns h (fun k hk e => by have := (h.lt k hk).1; have := Option.some.inj e; simp only at this; omega)
end Go.Proofs.YtdommkpeilmdnaaDoor
