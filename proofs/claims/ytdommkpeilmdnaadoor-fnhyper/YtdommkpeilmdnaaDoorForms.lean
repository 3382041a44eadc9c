import Derived.Test.YtdommkpeilmdnaaDoorChecked
import Derived.WalkKit
import Derived.ProofKit
namespace Go.Proofs.YtdommkpeilmdnaaDoor
open Go.RowKit
set_option linter.unusedVariables false

/-- The table of the four lengths, as the world holds it. -/
structure Tab (w : World) : Prop where
  c0 : w.cell? ⟨1, 0, none⟩ = some (.int .i64 1)
  c1 : w.cell? ⟨1, 1, none⟩ = some (.int .i64 2)
  c2 : w.cell? ⟨1, 2, none⟩ = some (.int .i64 4)
  c3 : w.cell? ⟨1, 3, none⟩ = some (.int .i64 8)

def vlen (k : Int) : Int := if k = 0 then 1 else if k = 1 then 2 else if k = 2 then 4 else 8
def vmost (k : Int) : Int := if k = 0 then 63 else if k = 1 then 16383 else if k = 2 then 1073741823 else 4611686018427387903

theorem length_0 (w : World) (h : w.cell? ⟨1, 0, none⟩ = some (.int .i64 1)) :
    Calls Tryd.prog 49 #[.int .i64 0] w fun e w' => e = .returned (.int .i64 1) ∧ w' = w := by
  go_enter Tryd.func49, Tryd.ntmps49
  go_wp2
  go_ret
  exact ⟨rfl, rfl⟩
theorem length_1 (w : World) (h : w.cell? ⟨1, 1, none⟩ = some (.int .i64 2)) :
    Calls Tryd.prog 49 #[.int .i64 1] w fun e w' => e = .returned (.int .i64 2) ∧ w' = w := by
  go_enter Tryd.func49, Tryd.ntmps49
  go_wp2
  go_ret
  exact ⟨rfl, rfl⟩
theorem length_2 (w : World) (h : w.cell? ⟨1, 2, none⟩ = some (.int .i64 4)) :
    Calls Tryd.prog 49 #[.int .i64 2] w fun e w' => e = .returned (.int .i64 4) ∧ w' = w := by
  go_enter Tryd.func49, Tryd.ntmps49
  go_wp2
  go_ret
  exact ⟨rfl, rfl⟩
theorem length_3 (w : World) (h : w.cell? ⟨1, 3, none⟩ = some (.int .i64 8)) :
    Calls Tryd.prog 49 #[.int .i64 3] w fun e w' => e = .returned (.int .i64 8) ∧ w' = w := by
  go_enter Tryd.func49, Tryd.ntmps49
  go_wp2
  go_ret
  exact ⟨rfl, rfl⟩

theorem forms (k : Int) (h0 : 0 ≤ k) (h4 : k < 4) : k = 0 ∨ k = 1 ∨ k = 2 ∨ k = 3 := by omega

theorem length_any (k : Int) (h0 : 0 ≤ k) (h4 : k < 4) (w : World) (h : Tab w) :
    Calls Tryd.prog 49 #[.int .i64 k] w fun e w' => e = .returned (.int .i64 (vlen k)) ∧ w' = w := by
  rcases forms k h0 h4 with rfl | rfl | rfl | rfl
  · exact length_0 w h.c0
  · exact length_1 w h.c1
  · exact length_2 w h.c2
  · exact length_3 w h.c3

theorem greatest_any (k : Int) (h0 : 0 ≤ k) (h4 : k < 4) (w : World) (h : Tab w) :
    Calls Tryd.prog 54 #[.int .i64 k] w fun e w' => e = .returned (.int .i64 (vmost k)) ∧ w' = w := by
  have h1 := h.c0
  have h2 := h.c1
  have h3 := h.c2
  have h5 := h.c3
  clear h
  rcases forms k h0 h4 with rfl | rfl | rfl | rfl
  all_goals
    clear h0 h4
    go_enter Tryd.func54, Tryd.ntmps54
    go_wp2
    go_ret
    exact ⟨rfl, rfl⟩

theorem Tab.below {w w' : World} {B : Nat} (h : Tab w) (hb : Below B w w') (h0 : 1 < B) : Tab w' :=
  ⟨(hb.cell h0).trans h.c0, (hb.cell h0).trans h.c1, (hb.cell h0).trans h.c2, (hb.cell h0).trans h.c3⟩
theorem Tab.lt {w : World} (h : Tab w) : 1 < w.heap.size := by
  have := h.c0
  refine Nat.lt_of_not_le (fun hn => ?_)
  have e : w.heap[1]? = none := Array.getElem?_eq_none (by omega)
  simp [World.cell?, e] at this
end Go.Proofs.YtdommkpeilmdnaaDoor
