import Derived.Test.YtdhkcejfcmobcaaDoorLiftTb
import Derived.Test.YtdhkcejfcmobcaaDoorRlA
namespace Go.Proofs.YtdhkcejfcmobcaaDoor
open Go.ChangeShapes Go.WideShapes Go.ChangeAt Go.RowKit Go.Joins Go.Deep
set_option linter.unusedVariables false

/-- AN ARGUMENT THAT IS A RESPONSE. -/
theorem open_resp {H : Type} {enc : TypeId × Value → H} {P : Program} {W : World} {r : Reach} {base : Nat} {t ti tl te ts : TypeId} {g0 g1 f0 f1 : Field} {v : Value} {d : DataW H} {p : List MemPlace}
    (hs : P.underlying t = some (.struct #[g0, g1])) (hone2 : oneCellFields P #[g0, g1] = true) (hC2 : P.cellsOf t = 2) (hg : g0.type = ti ∧ g1.type = tl) (hi : P.underlying ti = some (.int .i64))
    (ht : P.underlying tl = some (.slice te)) (hse : P.underlying te = some (.struct #[f0, f1])) (hone : oneCellFields P #[f0, f1] = true) (hC : P.cellsOf te = 2) (hf : f0.type = ts ∧ f1.type = ts) (hst : P.underlying ts = some .string)
    (hval : Value.okWide P W r base t v) (h : DataW.Trod enc P W 0 (fun _ => true) true t v d p) :
    ∃ (st : Int) (s : Value) (L : List SField), v = rV st s ∧ GRow 2 W s (SField.L L) ∧ L.length ≤ maxLen ∧ fin L := by
  obtain ⟨v0, v1, y0, y1, n, rfl, _, _, h0, h1⟩ := open_agg2 hs hone2 hC2 hval h
  rw [hg.1] at h0
  rw [hg.2] at h1
  obtain ⟨x0, rfl, _⟩ := open_num hi h0
  obtain ⟨L, hr, hl, hfn⟩ := open_flds ht hse hone hC hf hst h1
  exact ⟨x0, v1, L, rfl, hr, hl, hfn⟩
end Go.Proofs.YtdhkcejfcmobcaaDoor
