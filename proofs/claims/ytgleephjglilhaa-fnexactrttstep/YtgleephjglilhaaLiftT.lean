import Derived.Test.YtgleephjglilhaaLiftB
import Derived.Test.YtgleephjglilhaaRttA
import Derived.Lib.SmallJoins
import Derived.ChangeMaps5
namespace Go.Proofs.Ytgleephjglilhaa
open Go.ChangeShapes Go.WideShapes Go.ChangeAt Go.RowKit Go.Joins Go.Deep

/-- AN ARGUMENT THAT IS FOUR NUMBERS. -/
theorem open_four {H : Type} {enc : TypeId × Value → H} {P : Program} {W : World} {r : Reach} {base : Nat} {t ti : TypeId} {f0 f1 f2 f3 : Field} {v : Value} {d : DataW H} {p : List MemPlace}
    (hs : P.underlying t = some (.struct #[f0, f1, f2, f3])) (hone : oneCellFields P #[f0, f1, f2, f3] = true) (hC : P.cellsOf t = 4) (hf : f0.type = ti ∧ f1.type = ti ∧ f2.type = ti ∧ f3.type = ti)
    (hi : P.underlying ti = some (.int .i64)) (hval : Value.okWide P W r base t v) (h : DataW.Trod enc P W 0 (fun _ => true) true t v d p) :
    ∃ x0 x1 x2 x3 : Int, v = rv x0 x1 x2 x3 := by
  obtain ⟨v0, v1, v2, v3, y0, y1, y2, y3, n, rfl, _, _, h0, h1, h2, h3⟩ := open_agg4 hs hone hC hval h
  rw [hf.1] at h0
  rw [hf.2.1] at h1
  rw [hf.2.2.1] at h2
  rw [hf.2.2.2] at h3
  obtain ⟨x0, rfl, _⟩ := open_num hi h0
  obtain ⟨x1, rfl, _⟩ := open_num hi h1
  obtain ⟨x2, rfl, _⟩ := open_num hi h2
  obtain ⟨x3, rfl, _⟩ := open_num hi h3
  exact ⟨x0, x1, x2, x3, rfl⟩
end Go.Proofs.Ytgleephjglilhaa
