import Derived.Test.YthjakbpcpfmbjaaMem
namespace Go.Proofs.Ythjakbpcpfmbjaa
open Go.RowKit
set_option linter.unusedVariables false

/-- What one store of a round does. -/
theorem mark_step {e0 : Nat} {w wr : World} {base g n cap k : Nat} {q x : Int} {xs : List Int} (hx : x = (q + (k : Int)) % 256)
    (hl : xs.length = n) (hk : k < n) (hm : ∀ j, j < k → xs.getD j 0 = (q + (j : Int)) % 256)
    (hown : wr.ownsRow base e0 1 (.slice (some ⟨g, 0, none⟩) n cap) n (xs.map (Value.int .u8))) (hb : Below base w wr) (hz : wr.heap.size = w.heap.size) (ho : Only (some g) w wr) (hg : base ≤ g) :
    ∃ ys : List Int, ys.length = n ∧ (∀ j, j < k + 1 → ys.getD j 0 = (q + (j : Int)) % 256) ∧ (wr.setCell ⟨g, k, none⟩ (.int .u8 x)).ownsRow base e0 1 (.slice (some ⟨g, 0, none⟩) n cap) n (ys.map (Value.int .u8)) ∧
      Below base w (wr.setCell ⟨g, k, none⟩ (.int .u8 x)) ∧ (wr.setCell ⟨g, k, none⟩ (.int .u8 x)).heap.size = w.heap.size ∧ Only (some g) w (wr.setCell ⟨g, k, none⟩ (.int .u8 x)) := by
  refine ⟨xs.set k x, by simp [hl], fun j hj => ?_, ?_, hb.setCell hg _, by simp [World.setCell, hz], ho.trans (Only.setCell ⟨g, k, none⟩ _)⟩
  · by_cases e : j = k
    · subst e
      simp [List.getD, hl, hk, hx]
    · have := hm j (by omega)
      simp only [List.getD, List.getElem?_set] at this ⊢
      rw [if_neg (by omega)]
      exact this
  · have := (hown.stored k (.int .u8 x)).1
    rwa [← List.map_set] at this

end Go.Proofs.Ythjakbpcpfmbjaa
