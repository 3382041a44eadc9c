import Derived.Test.YtgifbpongpbjaaaDoorStR
import Derived.Deep.LoopGhost
namespace Go.Proofs.YtgifbpongpbjaaaDoor
open Go.RowKit
set_option linter.unusedVariables false

/-- The ring's cells. -/
def rc : List (Bool × Int) → List Value
  | [] => []
  | x :: r => .bool x.1 :: .int .u8 x.2 :: rc r
theorem rc_length : ∀ L, (rc L).length = 2 * L.length
  | [] => rfl
  | x :: r => by simp [rc, rc_length r]; omega
theorem rc_get0 : ∀ (L : List (Bool × Int)) (j : Nat), j < L.length → (rc L)[j * 2]? = some (.bool (L.getD j (false, 0)).1)
  | [], j, h => by simp at h
  | x :: r, 0, h => by simp [rc]
  | x :: r, j + 1, h => by
    have := rc_get0 r j (by simpa using h)
    rw [show (j + 1) * 2 = j * 2 + 1 + 1 by omega]
    simpa [rc] using this
theorem rc_get1 : ∀ (L : List (Bool × Int)) (j : Nat), j < L.length → (rc L)[j * 2 + 1]? = some (.int .u8 (L.getD j (false, 0)).2)
  | [], j, h => by simp at h
  | x :: r, 0, h => by simp [rc]
  | x :: r, j + 1, h => by
    have := rc_get1 r j (by simpa using h)
    rw [show (j + 1) * 2 + 1 = j * 2 + 1 + 1 + 1 by omega]
    simpa [rc] using this
theorem rc_set : ∀ (L : List (Bool × Int)) (j : Nat) (b : Bool) (v : Int), ((rc L).set (j * 2) (.bool b)).set (j * 2 + 1) (.int .u8 v) = rc (L.set j (b, v))
  | [], j, b, v => by simp [rc]
  | x :: r, 0, b, v => by simp [rc]
  | x :: r, j + 1, b, v => by
    have := rc_set r j b v
    rw [show (j + 1) * 2 = j * 2 + 1 + 1 by omega]
    simpa [rc] using this
def rgB (w : World) (c : Nat) (L : List (Bool × Int)) : Prop := w.heap[c]? = some (.cells (rc L).toArray 55 (0, 0))
theorem rgB.c0 {w : World} {c : Nat} {L : List (Bool × Int)} (h : rgB w c L) (j : Nat) (hj : j < L.length) : w.cell? ⟨c, j * 2, none⟩ = some (.bool (L.getD j (false, 0)).1) := by
  rw [bk_cell h, List.getElem?_toArray]
  exact rc_get0 L j hj
theorem rgB.c1 {w : World} {c : Nat} {L : List (Bool × Int)} (h : rgB w c L) (j : Nat) (hj : j < L.length) : w.cell? ⟨c, j * 2 + 1, none⟩ = some (.int .u8 (L.getD j (false, 0)).2) := by
  rw [bk_cell h, List.getElem?_toArray]
  exact rc_get1 L j hj
theorem rgB.set {w : World} {c : Nat} {L : List (Bool × Int)} (h : rgB w c L) (j : Nat) (b : Bool) (v : Int) : rgB ((w.setCell ⟨c, j * 2, none⟩ (.bool b)).setCell ⟨c, j * 2 + 1, none⟩ (.int .u8 v)) c (L.set j (b, v)) := by
  have := bk_set (bk_set h (j * 2) (.bool b)) (j * 2 + 1) (.int .u8 v)
  unfold rgB
  rw [this, ← rc_set]
  simp
/-- One byte that comes: what is in the ring, how many have come. -/
def kst (first win : Nat) (S : List (Bool × Int) × Nat) (pl : Nat) (v : Int) : List (Bool × Int) × Nat :=
  if pl < first then S else if (S.1.getD (pl % win) (false, 0)).1 then S else (S.1.set (pl % win) (true, v), S.2 + 1)
def kfo (first win off : Nat) (D : List Int) (S : List (Bool × Int) × Nat) : Nat → List (Bool × Int) × Nat
  | 0 => S
  | i + 1 => kst first win (kfo first win off D S i) (off + i) (D.getD i 0)
theorem kst_length (first win : Nat) (S : List (Bool × Int) × Nat) (pl : Nat) (v : Int) : (kst first win S pl v).1.length = S.1.length := by
  unfold kst
  split
  · rfl
  · split
    · rfl
    · simp
theorem kfo_length (first win off : Nat) (D : List Int) (S : List (Bool × Int) × Nat) : ∀ i, (kfo first win off D S i).1.length = S.1.length
  | 0 => rfl
  | i + 1 => by unfold kfo; rw [kst_length]; exact kfo_length first win off D S i
theorem kst_came (first win : Nat) (S : List (Bool × Int) × Nat) (pl : Nat) (v : Int) : (kst first win S pl v).2 ≤ S.2 + 1 := by
  unfold kst
  split
  · omega
  · split <;> simp
theorem kfo_came (first win off : Nat) (D : List Int) (S : List (Bool × Int) × Nat) : ∀ i, (kfo first win off D S i).2 ≤ S.2 + i
  | 0 => Nat.le_refl _
  | i + 1 => by
    have h1 := kfo_came first win off D S i
    have h2 := kst_came first win (kfo first win off D S i) (off + i) (D.getD i 0)
    show (kst first win (kfo first win off D S i) (off + i) (D.getD i 0)).2 ≤ _
    omega
end Go.Proofs.YtgifbpongpbjaaaDoor
