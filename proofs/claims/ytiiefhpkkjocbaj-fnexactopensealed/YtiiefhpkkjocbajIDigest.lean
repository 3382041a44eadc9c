import Derived.Test.YtiiefhpkkjocbajIParts
namespace Go.Proofs.Ytiiefhpkkjocbaj
open Go.RowKit
set_option linter.unusedVariables false

def digestV (ks ds : List Int) : List Int := if ks.length ≤ 65536 ∧ ds.length ≤ 65536 then digV ks ds else []
theorem digestV_length (ks ds : List Int) : (digestV ks ds).length ≤ 16 := by
  unfold digestV
  split
  · rw [digV_length]; decide
  · decide

theorem owns_empty (w : World) (e : TypeId) : (w.alloc (.cells #[] e)).ownsRow w.heap.size e 1 (.slice (some ⟨w.heap.size, 0, none⟩) 0 0) 0 [] :=
  ⟨rfl, Or.inr ⟨w.heap.size, 0, #[], rfl, Nat.le_refl _, (MapKept.heap_alloc w _).1, Nat.le_refl _, Nat.zero_le _, rfl, rfl⟩⟩
/-- One part, two parts. -/
theorem parts1 {w : World} {v : Value} {xs : List Int} (h : Row w .u8 v xs) (t : TypeId) : Parts (w.alloc (.cells #[v] t)) (.slice (some ⟨w.heap.size, 0, none⟩) 1 1) [xs] := by
  refine ⟨w.heap.size, 1, rfl, by simp, fun j hj => ?_⟩
  obtain rfl : j = 0 := by simp at hj; omega
  exact ⟨v, by rw [blkS_cell (MapKept.heap_alloc w _).1]; rfl, h.below ((Below.refl _ _).alloc (Nat.le_refl _) _)⟩
theorem parts2 {w : World} {v v2 : Value} {xs ys : List Int} (h : Row w .u8 v xs) (h2 : Row w .u8 v2 ys) (t : TypeId) : Parts (w.alloc (.cells #[v, v2] t)) (.slice (some ⟨w.heap.size, 0, none⟩) 2 2) [xs, ys] := by
  refine ⟨w.heap.size, 2, rfl, by simp, fun j hj => ?_⟩
  have hb := (Below.refl w.heap.size w).alloc (Nat.le_refl _) (.cells #[v, v2] t)
  rcases (show j = 0 ∨ j = 1 by simp at hj; omega) with rfl | rfl
  · exact ⟨v, by rw [blkS_cell (MapKept.heap_alloc w _).1]; rfl, h.below hb⟩
  · exact ⟨v2, by rw [blkS_cell (MapKept.heap_alloc w _).1]; rfl, h2.below hb⟩
theorem bytes_getD2 {xs ys : List Int} (hx : Bytes xs) (hy : Bytes ys) (j : Nat) : Bytes ([xs, ys].getD j []) := by
  match j with
  | 0 => exact hx
  | 1 => exact hy
  | n + 2 => intro x h; simp [List.getD] at h
theorem bytes_getD1 {xs : List Int} (hx : Bytes xs) (j : Nat) : Bytes ([xs].getD j []) := by
  match j with
  | 0 => exact hx
  | n + 1 => intro x h; simp [List.getD] at h

end Go.Proofs.Ytiiefhpkkjocbaj
