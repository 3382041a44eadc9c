import Derived.Test.YtdjflbanbhhniaaDoorLiftTb
namespace Go.Proofs.YtdjflbanbhhniaaDoor
open Go.ChangeShapes Go.WideShapes Go.ChangeAt Go.RowKit Go.Joins Go.Deep
set_option linter.unusedVariables false

/-- AN ARGUMENT THAT IS A LIST OF FIELDS. -/
theorem open_fields {H : Type} {enc : TypeId × Value → H} {P : Program} {W : World} {r : Reach} {base : Nat} {t te ts : TypeId} {f0 f1 : Field} {v : Value} {d : DataW H} {p : List MemPlace}
    (ht : P.underlying t = some (.slice te)) (hse : P.underlying te = some (.struct #[f0, f1])) (hone : oneCellFields P #[f0, f1] = true) (hC : P.cellsOf te = 2) (hf : f0.type = ts ∧ f1.type = ts) (hst : P.underlying ts = some .string)
    (hval : Value.okWide P W r base t v) (h : DataW.Trod enc P W 0 (fun _ => true) true t v d p) :
    ∃ L : List SField, GRow 2 W v (SField.L L) ∧ L.length ≤ maxLen ∧ fin L := by
  obtain ⟨a0, len0, cap0, rfl⟩ := okWide_slice ht hval
  obtain ⟨fuel, hx0⟩ := h
  have hx : DataW.trod enc P W 0 (fun _ => true) true fuel t [.slice a0 len0 cap0] = some (d, p) := by simpa [Value.cells] using hx0
  exact open_flds ht hse hone hC hf hst hx
end Go.Proofs.YtdjflbanbhhniaaDoor
