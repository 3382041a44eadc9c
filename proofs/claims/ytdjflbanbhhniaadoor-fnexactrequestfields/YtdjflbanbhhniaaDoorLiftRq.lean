import Derived.Test.YtdjflbanbhhniaaDoorLiftTb
import Derived.Test.YtdjflbanbhhniaaDoorRqE
namespace Go.Proofs.YtdjflbanbhhniaaDoor
open Go.ChangeShapes Go.WideShapes Go.ChangeAt Go.RowKit Go.Joins Go.Deep
set_option linter.unusedVariables false

/-- AN ARGUMENT THAT IS A REQUEST. -/
theorem open_req {H : Type} {enc : TypeId × Value → H} {P : Program} {W : World} {r : Reach} {base : Nat} {t tl te ts : TypeId} {g0 g1 g2 g3 g4 f0 f1 : Field} {v : Value} {d : DataW H} {p : List MemPlace}
    (hs : P.underlying t = some (.struct #[g0, g1, g2, g3, g4])) (hone5 : oneCellFields P #[g0, g1, g2, g3, g4] = true) (hC5 : P.cellsOf t = 5) (hg : g0.type = ts ∧ g1.type = ts ∧ g2.type = ts ∧ g3.type = ts ∧ g4.type = tl)
    (ht : P.underlying tl = some (.slice te)) (hse : P.underlying te = some (.struct #[f0, f1])) (hone : oneCellFields P #[f0, f1] = true) (hC : P.cellsOf te = 2) (hf : f0.type = ts ∧ f1.type = ts) (hst : P.underlying ts = some .string)
    (hval : Value.okWide P W r base t v) (h : DataW.Trod enc P W 0 (fun _ => true) true t v d p) :
    ∃ (m c q a : ByteArray) (s : Value) (L : List SField), v = qV m c q a s ∧ GRow 2 W s (SField.L L) ∧ m.size ≤ maxLen ∧ c.size ≤ maxLen ∧ q.size ≤ maxLen ∧ a.size ≤ maxLen ∧ L.length ≤ maxLen ∧ fin L := by
  obtain ⟨cs, rfl, hsz⟩ := okWide_struct hs hval
  have hsz5 : cs.size = 5 := hsz.trans hC5
  obtain ⟨c0, c1, c2, c3, c4, rfl⟩ : ∃ c0 c1 c2 c3 c4, cs = #[c0, c1, c2, c3, c4] := by
    obtain ⟨l⟩ := cs
    match l, hsz5 with
    | [c0, c1, c2, c3, c4], _ => exact ⟨c0, c1, c2, c3, c4, rfl⟩
  obtain ⟨fuel, hf'⟩ := h
  obtain ⟨xs, m, _, _, _, hlx, hgg⟩ := DataW.trod_struct hs hf'
  match xs, hlx, hgg with
  | [y0, y1, y2, y3, y4], _, hgg =>
    obtain ⟨o0, k0⟩ := hone_of hone5 0 g0 rfl
    obtain ⟨o1, k1⟩ := hone_of hone5 1 g1 rfl
    obtain ⟨o2, k2⟩ := hone_of hone5 2 g2 rfl
    obtain ⟨o3, k3⟩ := hone_of hone5 3 g3 rfl
    obtain ⟨o4, k4⟩ := hone_of hone5 4 g4 rfl
    have e0 : DataW.trod enc P W 0 (fun _ => true) true m g0.type [c0] = some y0 := by simpa [Value.cells, o0, k0] using hgg 0 g0 rfl
    have e1 : DataW.trod enc P W 0 (fun _ => true) true m g1.type [c1] = some y1 := by simpa [Value.cells, o1, k1] using hgg 1 g1 rfl
    have e2 : DataW.trod enc P W 0 (fun _ => true) true m g2.type [c2] = some y2 := by simpa [Value.cells, o2, k2] using hgg 2 g2 rfl
    have e3 : DataW.trod enc P W 0 (fun _ => true) true m g3.type [c3] = some y3 := by simpa [Value.cells, o3, k3] using hgg 3 g3 rfl
    have e4 : DataW.trod enc P W 0 (fun _ => true) true m g4.type [c4] = some y4 := by simpa [Value.cells, o4, k4] using hgg 4 g4 rfl
    rw [hg.1] at e0
    rw [hg.2.1] at e1
    rw [hg.2.2.1] at e2
    rw [hg.2.2.2.1] at e3
    rw [hg.2.2.2.2] at e4
    obtain ⟨s0, q0, _, z0⟩ := DataW.trod_string hst e0
    obtain ⟨s1, q1, _, z1⟩ := DataW.trod_string hst e1
    obtain ⟨s2, q2, _, z2⟩ := DataW.trod_string hst e2
    obtain ⟨s3, q3, _, z3⟩ := DataW.trod_string hst e3
    obtain rfl : c0 = .string s0 := by simpa using q0
    obtain rfl : c1 = .string s1 := by simpa using q1
    obtain rfl : c2 = .string s2 := by simpa using q2
    obtain rfl : c3 = .string s3 := by simpa using q3
    obtain ⟨L, hr, hl, hfn⟩ := open_flds ht hse hone hC hf hst e4
    exact ⟨s0, s1, s2, s3, c4, L, rfl, hr, z0, z1, z2, z3, hl, hfn⟩
end Go.Proofs.YtdjflbanbhhniaaDoor
