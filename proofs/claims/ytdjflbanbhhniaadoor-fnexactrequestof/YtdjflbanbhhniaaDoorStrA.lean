import Derived.Test.YtdjflbanbhhniaaDoorKeys
import Derived.BigQuiet
import Derived.Deep.LoopGhost
namespace Go.Proofs.YtdjflbanbhhniaaDoor
open Go.RowKit
set_option linter.unusedVariables false

/-- The slice value v reads as the texts L. -/
def TRow (w : World) (v : Value) (L : List ByteArray) : Prop :=
  (L = [] ∧ ∃ ao cap, v = .slice ao 0 cap) ∨
  (∃ b off cap, v = .slice (some ⟨b, off, none⟩) L.length cap ∧ b < w.heap.size ∧ (L.length ≤ cap ∧ cap ≤ maxLen) ∧ ∀ j, j < L.length → w.cell? ⟨b, off + j, none⟩ = some (.string (L.getD j ByteArray.empty)))
theorem TRow.form {w : World} {v : Value} {L : List ByteArray} (h : TRow w v L) : ∃ ao cap, v = .slice ao L.length cap := by
  rcases h with ⟨rfl, ao, cap, rfl⟩ | ⟨b, off, cap, rfl, _⟩
  · exact ⟨ao, cap, rfl⟩
  · exact ⟨_, cap, rfl⟩
theorem TRow.below {w w' : World} {v : Value} {L : List ByteArray} (h : TRow w v L) (hb : Below w.heap.size w w') : TRow w' v L := by
  rcases h with h | ⟨b, off, cap, e, hlt, hcap, hc⟩
  · exact Or.inl h
  · exact Or.inr ⟨b, off, cap, e, Nat.lt_of_lt_of_le hlt hb.size, hcap, fun j hj => (hb.cell (p := ⟨b, off + j, none⟩) hlt).trans (hc j hj)⟩
theorem TRow.cells {w : World} {v : Value} {L : List ByteArray} (h : TRow w v L) : ∃ ao cap, v = .slice ao L.length cap ∧ ∀ j, j < L.length → ∃ b off, ao = some ⟨b, off, none⟩ ∧ b < w.heap.size ∧ w.cell? ⟨b, off + j, none⟩ = some (.string (L.getD j ByteArray.empty)) := by
  rcases h with ⟨rfl, ao, cap, rfl⟩ | ⟨b, off, cap, rfl, hb, _, hc⟩
  · exact ⟨ao, cap, rfl, fun j hj => by simp at hj⟩
  · exact ⟨_, cap, rfl, fun j hj => ⟨b, off, rfl, hb, hc j hj⟩⟩
theorem trow_of_owns {w : World} {base n : Nat} {v : Value} {L : List ByteArray} (h : w.ownsRow base 9 1 v n (L.map Value.string)) : TRow w v L := by
  obtain ⟨hl, h2⟩ := id h
  simp at hl
  subst hl
  rcases h2 with ⟨rfl, h0⟩ | ⟨g, cap, cur, rfl, hg, hh, hc1, hc2, r⟩
  · left
    exact ⟨by simpa using h0, none, 0, rfl⟩
  · right
    refine ⟨g, 0, cap, rfl, (Array.getElem?_eq_some_iff.1 hh).1, ⟨hc1, hc2⟩, fun j hj => ?_⟩
    have := h.cellAt j (by simpa using hj)
    rw [Nat.zero_add, this]
    simp [List.getD, hj]
theorem infoStr : (Tryd.prog.info? 9).map (fun i => (i.zero, i.size, i.bytes)) = some (some (.string ByteArray.empty), 1, 16) := by kernel_rfl
/-- One store of a loop that fills a row of texts of its own. -/
theorem fill_stepT {w wr : World} {base B g n cap k : Nat} {f : Nat → ByteArray} {x : ByteArray} {zs : List ByteArray} (hx : x = f k) (hl : zs.length = n) (hk : k < n) (hm : ∀ j, j < k → zs.getD j ByteArray.empty = f j)
    (hown : wr.ownsRow base 9 1 (.slice (some ⟨g, 0, none⟩) n cap) n (zs.map Value.string)) (hb : Below B w wr) (hg : B ≤ g) :
    ∃ ys : List ByteArray, ys.length = n ∧ (∀ j, j < k + 1 → ys.getD j ByteArray.empty = f j) ∧ (wr.setCell ⟨g, k, none⟩ (.string x)).ownsRow base 9 1 (.slice (some ⟨g, 0, none⟩) n cap) n (ys.map Value.string) ∧
      Below B w (wr.setCell ⟨g, k, none⟩ (.string x)) := by
  refine ⟨zs.set k x, by simp [hl], fun j hj => ?_, ?_, hb.setCell hg _⟩
  · by_cases e : j = k
    · subst e
      simp [List.getD, hl, hk, hx]
    · have := hm j (by omega)
      simp only [List.getD, List.getElem?_set] at this ⊢
      rw [if_neg (by omega)]
      exact this
  · have := (hown.stored k (.string x)).1
    rwa [← List.map_set] at this
theorem owns_cellT {w : World} {base g n cap k : Nat} {zs : List ByteArray} (hown : w.ownsRow base 9 1 (.slice (some ⟨g, 0, none⟩) n cap) n (zs.map Value.string)) (hl : zs.length = n) (hk : k < n) :
    w.cell? ⟨g, k, none⟩ = some (.string (zs.getD k ByteArray.empty)) := by
  have := hown.cellAt k (by omega)
  rw [this]
  simp [List.getD, hl, hk]
theorem tlist_eq {xs ys : List ByteArray} {n : Nat} (hx : xs.length = n) (hy : ys.length = n) (h : ∀ j, j < n → xs.getD j ByteArray.empty = ys.getD j ByteArray.empty) : xs = ys := by
  apply List.ext_getElem (by omega)
  intro i h1 h2
  have := h i (by omega)
  simpa [List.getD, h1, h2] using this
theorem made_zeroT {w' : World} {base g n : Nat} (h : w'.ownsRow base 9 1 (.slice (some ⟨g, 0, none⟩) n n) n (madeCells (Value.string ByteArray.empty).cells (n * 1)).toList) :
    w'.ownsRow base 9 1 (.slice (some ⟨g, 0, none⟩) n n) n ((List.replicate n ByteArray.empty).map Value.string) := by
  have : (madeCells (Value.string ByteArray.empty).cells (n * 1)).toList = (List.replicate n ByteArray.empty).map Value.string := by
    rw [show (Value.string ByteArray.empty).cells = #[Value.string ByteArray.empty] from rfl, toList_madeCells_one]
    simp
  rwa [this] at h
end Go.Proofs.YtdjflbanbhhniaaDoor
