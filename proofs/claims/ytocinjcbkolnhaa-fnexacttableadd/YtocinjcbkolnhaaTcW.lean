import Derived.Test.YtocinjcbkolnhaaTcF
import Derived.Test.YtocinjcbkolnhaaTgG
namespace Go.Proofs.Ytocinjcbkolnhaa
open Go.RowKit
set_option linter.unusedVariables false

/-- The table that was handed in, and the one that is told. -/
def T2 (w u : World) (a b c : Int) (s : Value) : Prop :=
  u.heap[w.heap.size]? = some (.cells #[.int .i64 a, .int .i64 b, .int .i64 c, s] 31 (0, 0)) ∧ u.heap[w.heap.size + 1]? = some (.cells #[.int .i64 0, .int .i64 0, .int .i64 0, .slice none 0 0] 31 (0, 0)) ∧ Below w.heap.size w u
theorem T2.new (w : World) (a b c : Int) (s : Value) : T2 w ((w.alloc (.cells #[.int .i64 a, .int .i64 b, .int .i64 c, s] 31)).alloc (.cells #[.int .i64 0, .int .i64 0, .int .i64 0, .slice none 0 0] 31)) a b c s := by
  have := bk_new2 w (.cells #[.int .i64 a, .int .i64 b, .int .i64 c, s] 31) (.cells #[.int .i64 0, .int .i64 0, .int .i64 0, .slice none 0 0] 31)
  exact ⟨this.1, this.2, ((Below.refl _ _).alloc (Nat.le_refl _) _).alloc (by simp) _⟩
theorem T2.lt {w u : World} {a b c : Int} {s : Value} (h : T2 w u a b c s) : w.heap.size + 1 < u.heap.size := (Array.getElem?_eq_some_iff.1 h.2.1).1
theorem T2.next {w u u' : World} {a b c : Int} {s : Value} (h : T2 w u a b c s) (hb : Below u.heap.size u u') : T2 w u' a b c s :=
  ⟨(hb.block _ (by have := h.lt; omega)).trans h.1, (hb.block _ h.lt).trans h.2.1, h.2.2.trans (hb.mono h.2.2.size)⟩
theorem T2.box {w u : World} {a b c : Int} {s : Value} (h : T2 w u a b c s) : u.cell? ⟨w.heap.size, 0, none⟩ = some (.int .i64 a) ∧ u.cell? ⟨w.heap.size, 1, none⟩ = some (.int .i64 b) ∧ u.cell? ⟨w.heap.size, 2, none⟩ = some (.int .i64 c) ∧ u.cell? ⟨w.heap.size, 3, none⟩ = some s ∧ u.frozen? ⟨w.heap.size, 1, none⟩ = false ∧ u.frozen? ⟨w.heap.size, 3, none⟩ = false :=
  ⟨by rw [bk_cell h.1]; rfl, by rw [bk_cell h.1]; rfl, by rw [bk_cell h.1]; rfl, by rw [bk_cell h.1]; rfl, bk_free h.1 1, bk_free h.1 3⟩
theorem T2.res {w u : World} {a b c : Int} {s : Value} (h : T2 w u a b c s) : u.cell? ⟨w.heap.size + 1, 0, none⟩ = some (.int .i64 0) ∧ u.cell? ⟨w.heap.size + 1, 1, none⟩ = some (.int .i64 0) ∧ u.cell? ⟨w.heap.size + 1, 2, none⟩ = some (.int .i64 0) ∧ u.cell? ⟨w.heap.size + 1, 3, none⟩ = some (.slice none 0 0) ∧ u.frozen? ⟨w.heap.size + 1, 0, none⟩ = false ∧ u.frozen? ⟨w.heap.size + 1, 1, none⟩ = false ∧ u.frozen? ⟨w.heap.size + 1, 2, none⟩ = false ∧ u.frozen? ⟨w.heap.size + 1, 3, none⟩ = false :=
  ⟨by rw [bk_cell h.2.1]; rfl, by rw [bk_cell h.2.1]; rfl, by rw [bk_cell h.2.1]; rfl, by rw [bk_cell h.2.1]; rfl, bk_free h.2.1 0, bk_free h.2.1 1, bk_free h.2.1 2, bk_free h.2.1 3⟩
theorem T2.set1 {w u : World} {a b c : Int} {s : Value} (h : T2 w u a b c s) (x : Int) : T2 w (u.setCell ⟨w.heap.size, 1, none⟩ (.int .i64 x)) a x c s :=
  ⟨(bk_set h.1 1 _).trans rfl, (bk_other (by omega) _ _).trans h.2.1, h.2.2.setCell (Nat.le_refl _) _⟩
theorem T2.set3 {w u : World} {a b c : Int} {s : Value} (h : T2 w u a b c s) (r : Value) : T2 w (u.setCell ⟨w.heap.size, 3, none⟩ r) a b c r :=
  ⟨(bk_set h.1 3 _).trans rfl, (bk_other (by omega) _ _).trans h.2.1, h.2.2.setCell (Nat.le_refl _) _⟩
/-- Told: the four cells are stored. -/
theorem T2.tell {w u : World} {a b c : Int} {s : Value} (h : T2 w u a b c s) (x y z : Int) (r : Value) :
    ((((u.setCell ⟨w.heap.size + 1, 0, none⟩ (.int .i64 x)).setCell ⟨w.heap.size + 1, 1, none⟩ (.int .i64 y)).setCell ⟨w.heap.size + 1, 2, none⟩ (.int .i64 z)).setCell ⟨w.heap.size + 1, 3, none⟩ r).heap[w.heap.size + 1]? = some (.cells #[.int .i64 x, .int .i64 y, .int .i64 z, r] 31 (0, 0)) ∧
    Below w.heap.size w ((((u.setCell ⟨w.heap.size + 1, 0, none⟩ (.int .i64 x)).setCell ⟨w.heap.size + 1, 1, none⟩ (.int .i64 y)).setCell ⟨w.heap.size + 1, 2, none⟩ (.int .i64 z)).setCell ⟨w.heap.size + 1, 3, none⟩ r) :=
  ⟨(bk_set (bk_set (bk_set (bk_set h.2.1 0 _) 1 _) 2 _) 3 _).trans rfl, (((h.2.2.setCell (by show w.heap.size ≤ w.heap.size + 1; omega) _).setCell (by show w.heap.size ≤ w.heap.size + 1; omega) _).setCell (by show w.heap.size ≤ w.heap.size + 1; omega) _).setCell (by show w.heap.size ≤ w.heap.size + 1; omega) _⟩
/-- TableCap. -/
def tcR (t : TB) (x : Int) : TB × Int := if tOK t = false then (⟨0, 0, 0, []⟩, 1) else if x < 0 ∨ t.mo < x then (⟨0, 0, 0, []⟩, 16) else (⟨t.mo, x, t.ad, t.es.drop (gng x t.es)⟩, 0)
theorem gown_nil (w : World) (base : Nat) : GOwns 35 2 w base (.slice none 0 0) (SField.L []) := GOwns.ofF (World.ownsRow_nil _ _ _ _)
end Go.Proofs.Ytocinjcbkolnhaa
