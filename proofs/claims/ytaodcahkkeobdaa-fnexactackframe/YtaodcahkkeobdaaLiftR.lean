import Derived.Test.YtaodcahkkeobdaaLiftF
namespace Go.Proofs.Ytaodcahkkeobdaa
open Go.ChangeShapes Go.WideShapes Go.ChangeAt Go.RowKit Go.Joins Go.Deep
set_option linter.unusedVariables false

/-- AN ARGUMENT THAT IS A LIST OF RANGES. -/
theorem open_ranges {H : Type} {enc : TypeId × Value → H} {P : Program} {W : World} {r : Reach} {base : Nat} {t te ti : TypeId} {f0 f1 : Field} {v : Value} {d : DataW H} {p : List MemPlace}
    (ht : P.underlying t = some (.slice te)) (hs : P.underlying te = some (.struct #[f0, f1])) (hone : oneCellFields P #[f0, f1] = true) (hC : P.cellsOf te = 2) (hf : f0.type = ti ∧ f1.type = ti) (hi : P.underlying ti = some (.int .i64))
    (hval : Value.okWide P W r base t v) (h : DataW.Trod enc P W 0 (fun _ => true) true t v d p) : ∃ R : List (Int × Int), RRow W v R ∧ R.length ≤ maxLen := by
  obtain ⟨a0, len0, cap0, rfl⟩ := okWide_slice ht hval
  obtain ⟨fuel, hx⟩ := h
  have hx' : DataW.trod enc P W 0 (fun _ => true) true fuel t [.slice a0 len0 cap0] = some (d, p) := by simpa [Value.cells] using hx
  exact open_rngs ht hs hone hC hf hi hx'
end Go.Proofs.Ytaodcahkkeobdaa
