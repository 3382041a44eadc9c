import Derived.Test.YtcgkgnecnicpnaaDoorMem
import Derived.Laws.RangeAny
import Derived.Laws.RangeString
import Derived.Deep.CutRange
namespace Go.Proofs.YtcgkgnecnicpnaaDoor
open Go.RowKit
set_option linter.unusedVariables false

/-- The byte of a text at a place. -/
def bt (s : ByteArray) (i : Nat) : Int := if h : i < s.size then ((s[i]'h).toNat : Int) else 0
theorem bt_at (s : ByteArray) (i : Nat) (h : i < s.size) : ((s[i]'h).toNat : Int) = bt s i := by simp [bt, h]
theorem bt_bd (s : ByteArray) (i : Nat) : 0 ≤ bt s i ∧ bt s i < 256 := by
  unfold bt
  split
  · rename_i h; have := (s[i]'h).toNat_lt; omega
  · omega
/-- A byte that may stand in a name; one that may stand in a value. -/
def nb (x : Int) : Bool := decide (33 ≤ x ∧ x ≤ 126 ∧ ¬ (65 ≤ x ∧ x ≤ 90))
def vb (x : Int) : Bool := decide (x ≠ 0 ∧ x ≠ 10 ∧ x ≠ 13)
def nAll (s : ByteArray) (n : Nat) : Bool := (List.range n).all fun i => nb (bt s i)
def vAll (s : ByteArray) (n : Nat) : Bool := (List.range n).all fun i => vb (bt s i)
def nOK (s : ByteArray) : Bool := decide (1 ≤ s.size ∧ s.size ≤ 64) && nAll s s.size
def vOK (s : ByteArray) : Bool := decide (s.size ≤ 1024) && vAll s s.size
theorem nAll_succ (s : ByteArray) (n : Nat) : nAll s (n + 1) = (nAll s n && nb (bt s n)) := by simp [nAll, List.range_succ]
theorem vAll_succ (s : ByteArray) (n : Nat) : vAll s (n + 1) = (vAll s n && vb (bt s n)) := by simp [vAll, List.range_succ]
theorem nAll_no (s : ByteArray) (n i : Nat) (h : i < n) (hb : nb (bt s i) = false) : nAll s n = false := by
  cases e : nAll s n with
  | false => rfl
  | true =>
    rw [nAll, List.all_eq_true] at e
    have := e i (List.mem_range.2 h)
    rw [hb] at this; cases this
theorem vAll_no (s : ByteArray) (n i : Nat) (h : i < n) (hb : vb (bt s i) = false) : vAll s n = false := by
  cases e : vAll s n with
  | false => rfl
  | true =>
    rw [vAll, List.all_eq_true] at e
    have := e i (List.mem_range.2 h)
    rw [hb] at this; cases this
theorem iter_below (w : World) (s : ByteArray) (p : Nat) : Below w.heap.size w (w.iter s p) := (Below.refl _ _).alloc (Nat.le_refl _) _
theorem ixC (s : ByteArray) (k : Nat) (h : k < s.size) (u : World) : (Instr.index 9 (.string s) (.int .i64 (k : Int))).run Tryd.prog u = .ok (.int .u8 (bt s k)) u := by
  rw [run_index_string u 9 s .i64 (k : Int) Tryd.underlying9]
  rw [dif_pos (by omega)]
  congr 2
  rw [← bt_at s k h]
  simp
def fOK (n v : ByteArray) : Bool := nOK n && vOK v
end Go.Proofs.YtcgkgnecnicpnaaDoor
