import Derived.Test.YtcljchbceeiheaaDoorIConcat
import Derived.Test.YtcljchbceeiheaaDoorLongS
import Derived.Test.YtcljchbceeiheaaDoorHigh
import Derived.Test.YtcljchbceeiheaaDoorBook
namespace Go.Proofs.YtcljchbceeiheaaDoor
open Go.RowKit
set_option linter.unusedVariables false

theorem parts_at {w : World} {p n cap : Nat} {vs : List Value} {L : List (List Int)} {t : TypeId} (hp : w.heap[p]? = some (.cells vs.toArray t (0, 0))) (hn : n = L.length) (hr : ∀ j, j < L.length → ∃ v, vs[j]? = some v ∧ Row w .u8 v (L.getD j [])) :
    Parts w (.slice (some ⟨p, 0, none⟩) n cap) L := by
  subst hn
  refine ⟨p, cap, rfl, (Array.getElem?_eq_some_iff.1 hp).1, fun j hj => ?_⟩
  obtain ⟨v, h1, h2⟩ := hr j hj
  exact ⟨v, by rw [blkS_cell hp]; simpa using h1, h2⟩
theorem parts6 {w : World} {v1 v2 v3 v4 v5 v6 : Value} {x1 x2 x3 x4 x5 x6 : List Int} (t : TypeId) (h1 : Row w .u8 v1 x1) (h2 : Row w .u8 v2 x2) (h3 : Row w .u8 v3 x3) (h4 : Row w .u8 v4 x4) (h5 : Row w .u8 v5 x5) (h6 : Row w .u8 v6 x6) :
    Parts (w.alloc (.cells #[v1, v2, v3, v4, v5, v6] t)) (.slice (some ⟨w.heap.size, 0, none⟩) 6 6) [x1, x2, x3, x4, x5, x6] := by
  have hb := (Below.refl w.heap.size w).alloc (Nat.le_refl _) (.cells #[v1, v2, v3, v4, v5, v6] t)
  refine parts_at (vs := [v1, v2, v3, v4, v5, v6]) (MapKept.heap_alloc w _).1 rfl (fun j hj => ?_)
  rcases (show j = 0 ∨ j = 1 ∨ j = 2 ∨ j = 3 ∨ j = 4 ∨ j = 5 by simp at hj; omega) with rfl | rfl | rfl | rfl | rfl | rfl
  · exact ⟨v1, rfl, h1.below hb⟩
  · exact ⟨v2, rfl, h2.below hb⟩
  · exact ⟨v3, rfl, h3.below hb⟩
  · exact ⟨v4, rfl, h4.below hb⟩
  · exact ⟨v5, rfl, h5.below hb⟩
  · exact ⟨v6, rfl, h6.below hb⟩
theorem below_new (w : World) (o : Obj) : Below w.heap.size w (w.alloc o) := (Below.refl _ _).alloc (Nat.le_refl _) _
end Go.Proofs.YtcljchbceeiheaaDoor
