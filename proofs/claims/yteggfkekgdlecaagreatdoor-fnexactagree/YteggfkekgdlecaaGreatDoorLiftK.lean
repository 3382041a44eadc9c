import Derived.Test.YteggfkekgdlecaaGreatDoorLiftB
import Derived.Test.YteggfkekgdlecaaGreatDoorKeys
import Derived.Lib.SmallJoins
import Derived.ChangeMaps5
namespace Go.Proofs.YteggfkekgdlecaaGreatDoor
open Go.ChangeShapes Go.WideShapes Go.ChangeAt Go.RowKit Go.Joins Go.Deep

/-- AN ARGUMENT THAT IS KEYS. -/
theorem open_keys {H : Type} {enc : TypeId × Value → H} {P : Program} {W : World} {r : Reach} {base : Nat} {t ts e : TypeId} {f0 f1 f2 f3 : Field} {v : Value} {d : DataW H} {p : List MemPlace}
    (hs : P.underlying t = some (.struct #[f0, f1, f2, f3])) (hone : oneCellFields P #[f0, f1, f2, f3] = true) (hC : P.cellsOf t = 4) (hf : f0.type = ts ∧ f1.type = ts ∧ f2.type = ts ∧ f3.type = ts)
    (ht : P.underlying ts = some (.slice e)) (he : P.underlying e = some (.int .u8)) (hc : P.cellsOf e = 1) (hval : Value.okWide P W r base t v) (h : DataW.Trod enc P W 0 (fun _ => true) true t v d p) :
    ∃ k : K4, KRow W v k ∧ k.small maxLen ∧ k.bytes := by
  obtain ⟨v0, v1, v2, v3, y0, y1, y2, y3, n, rfl, _, _, h0, h1, h2, h3⟩ := open_agg4 hs hone hC hval h
  rw [hf.1] at h0
  rw [hf.2.1] at h1
  rw [hf.2.2.1] at h2
  rw [hf.2.2.2] at h3
  obtain ⟨x0, r0, l0, b0⟩ := open_field ht he hc h0
  obtain ⟨x1, r1, l1, b1⟩ := open_field ht he hc h1
  obtain ⟨x2, r2, l2, b2⟩ := open_field ht he hc h2
  obtain ⟨x3, r3, l3, b3⟩ := open_field ht he hc h3
  exact ⟨⟨x0, x1, x2, x3⟩, ⟨v0, v1, v2, v3, rfl, r0, r1, r2, r3⟩, ⟨l0, l1, l2, l3⟩, ⟨bytes_of_wf b0, bytes_of_wf b1, bytes_of_wf b2, bytes_of_wf b3⟩⟩
end Go.Proofs.YteggfkekgdlecaaGreatDoor
