import Derived.Test.YtlmfgnjampeckaaRng
import Derived.Test.YtlmfgnjampeckaaToBytes
import Derived.Test.YtlmfgnjampeckaaEqBytes
import Derived.Test.YtlmfgnjampeckaaSzBytes
import Derived.Test.YtlmfgnjampeckaaBlocks
import Derived.Laws.Rows
namespace Go.Proofs.Ytlmfgnjampeckaa
open Go.RowKit
set_option linter.unusedVariables false

/-- A frame: four numbers, a bool, two lists of bytes, a list of ranges. -/
structure F8 where
  k : Int
  a : Int
  b : Int
  c : Int
  fin : Bool
  d : List Int
  t : List Int
  r : List (Int × Int)
def F8.small (h : F8) (n : Nat) : Prop := h.d.length ≤ n ∧ h.t.length ≤ n ∧ h.r.length ≤ n
def F8.total (h : F8) : Int := (h.d.length : Int) + (h.t.length : Int) + (h.r.length : Int)
def FRow (w : World) (v : Value) (h : F8) : Prop :=
  ∃ v2 v3 v4, v = .agg #[.int .i64 h.k, .int .i64 h.a, .int .i64 h.b, .int .i64 h.c, .bool h.fin, v2, v3, v4] ∧ Row w .u8 v2 h.d ∧ Row w .u8 v3 h.t ∧ RRow w v4 h.r
theorem FRow.below {w w' : World} {v : Value} {h : F8} (k : FRow w v h) (hb : Below w.heap.size w w') : FRow w' v h := by
  obtain ⟨v2, v3, v4, e, h0, h1, h2⟩ := k
  exact ⟨v2, v3, v4, e, h0.below hb, h1.below hb, h2.below hb⟩
theorem FRow.parts {w : World} {v : Value} {h : F8} (k : FRow w v h) : ∃ (a2 a3 a4 : Option Addr) (p2 p3 p4 : Nat), v = .agg #[.int .i64 h.k, .int .i64 h.a, .int .i64 h.b, .int .i64 h.c, .bool h.fin, .slice a2 h.d.length p2, .slice a3 h.t.length p3, .slice a4 h.r.length p4] ∧ Row w .u8 (.slice a2 h.d.length p2) h.d ∧ Row w .u8 (.slice a3 h.t.length p3) h.t ∧ RRow w (.slice a4 h.r.length p4) h.r := by
  obtain ⟨v2, v3, v4, rfl, q2, q3, q4⟩ := k
  obtain ⟨a2, p2, rfl⟩ := q2.form
  obtain ⟨a3, p3, rfl⟩ := q3.form
  obtain ⟨a4, p4, rfl⟩ := q4.form
  exact ⟨a2, a3, a4, p2, p3, p4, rfl, q2, q3, q4⟩

end Go.Proofs.Ytlmfgnjampeckaa
