import Derived.Test.YtjdmknlcjejecaaKeys
import Derived.Test.YtjdmknlcjejecaaBook
namespace Go.Proofs.Ytjdmknlcjejecaa
open Go.RowKit
set_option linter.unusedVariables false

/-- A header: five numbers, three lists of bytes. -/
structure H8 where
  f : Int
  v : Int
  d : List Int
  s : List Int
  t : List Int
  n : Int
  l : Int
  p : Int
def H8.small (h : H8) (n : Nat) : Prop := h.d.length ≤ n ∧ h.s.length ≤ n ∧ h.t.length ≤ n
def H8.bytes (h : H8) : Prop := Bytes h.d ∧ Bytes h.s ∧ Bytes h.t
/-- Its numbers are integers of 64 bits. -/
def H8.wf (h : H8) : Prop := (Lit.int .i64 h.f).wf = true ∧ (Lit.int .i64 h.v).wf = true ∧ (Lit.int .i64 h.n).wf = true ∧ (Lit.int .i64 h.l).wf = true ∧ (Lit.int .i64 h.p).wf = true
def H8.total (h : H8) : Int := (h.d.length : Int) + (h.s.length : Int) + (h.t.length : Int)
def H8.cells (h : H8) (v2 v3 v4 : Value) : Array Value := #[.int .i64 h.f, .int .i64 h.v, v2, v3, v4, .int .i64 h.n, .int .i64 h.l, .int .i64 h.p]
theorem h8small_mono {h : H8} {m n : Nat} (hs : h.small m) (hm : m ≤ n) : h.small n := ⟨Nat.le_trans hs.1 hm, Nat.le_trans hs.2.1 hm, Nat.le_trans hs.2.2 hm⟩
def HRow (w : World) (v : Value) (h : H8) : Prop :=
  ∃ v2 v3 v4, v = .agg #[.int .i64 h.f, .int .i64 h.v, v2, v3, v4, .int .i64 h.n, .int .i64 h.l, .int .i64 h.p] ∧ Row w .u8 v2 h.d ∧ Row w .u8 v3 h.s ∧ Row w .u8 v4 h.t
theorem HRow.below {w w' : World} {v : Value} {h : H8} (k : HRow w v h) (hb : Below w.heap.size w w') : HRow w' v h := by
  obtain ⟨v2, v3, v4, e, h0, h1, h2⟩ := k
  exact ⟨v2, v3, v4, e, h0.below hb, h1.below hb, h2.below hb⟩
/-- The call's own header: three rows of its own, no two of them in one block. -/
structure HOwn (w : World) (base : Nat) (v2 v3 v4 : Value) (h : H8) : Prop where
  o0 : w.ownsRow base 5 1 v2 h.d.length (h.d.map (Value.int .u8))
  o1 : w.ownsRow base 5 1 v3 h.s.length (h.s.map (Value.int .u8))
  o2 : w.ownsRow base 5 1 v4 h.t.length (h.t.map (Value.int .u8))
  a01 : Apart v2 v3
  a02 : Apart v2 v4
  a12 : Apart v3 v4
def HOwns (w : World) (base : Nat) (v : Value) (h : H8) : Prop := ∃ v2 v3 v4, v = .agg #[.int .i64 h.f, .int .i64 h.v, v2, v3, v4, .int .i64 h.n, .int .i64 h.l, .int .i64 h.p] ∧ HOwn w base v2 v3 v4 h
theorem HOwns.row {w : World} {base : Nat} {v : Value} {h : H8} (k : HOwns w base v h) : HRow w v h := by
  obtain ⟨v2, v3, v4, e, k⟩ := k
  exact ⟨v2, v3, v4, e, row_of_owns k.o0, row_of_owns k.o1, row_of_owns k.o2⟩
theorem HOwns.below {w w' : World} {base : Nat} {v : Value} {h : H8} (k : HOwns w base v h) (hb : Below w.heap.size w w') : HOwns w' base v h := by
  obtain ⟨v2, v3, v4, e, k⟩ := k
  exact ⟨v2, v3, v4, e, owns_below k.o0 hb, owns_below k.o1 hb, owns_below k.o2 hb, k.a01, k.a02, k.a12⟩
theorem HOwns.mono {w : World} {base base' : Nat} {v : Value} {h : H8} (k : HOwns w base v h) (hb : base' ≤ base) : HOwns w base' v h := by
  obtain ⟨v2, v3, v4, e, k⟩ := k
  exact ⟨v2, v3, v4, e, owns_mono k.o0 hb, owns_mono k.o1 hb, owns_mono k.o2 hb, k.a01, k.a02, k.a12⟩
/-- The blocks of a header. -/
def HBlk (v : Value) (g : Nat) : Prop := ∃ a0 a1 v2 v3 v4 a5 a6 a7, v = .agg #[a0, a1, v2, v3, v4, a5, a6, a7] ∧ (v2.ownBlock = some g ∨ v3.ownBlock = some g ∨ v4.ownBlock = some g)
theorem HOwns.blk {w : World} {base : Nat} {v : Value} {h : H8} (k : HOwns w base v h) (g : Nat) (hg : HBlk v g) : base ≤ g ∧ g < w.heap.size := by
  obtain ⟨v2, v3, v4, e, q⟩ := k
  obtain ⟨a0, a1, u2, u3, u4, a5, a6, a7, e', hb⟩ := hg
  rw [e] at e'
  cases e'
  rcases hb with hb | hb | hb
  · exact q.o0.lt g hb
  · exact q.o1.lt g hb
  · exact q.o2.lt g hb
theorem Chg.howns2 {S : Nat → Prop} {w w' : World} {base : Nat} {v : Value} {h : H8} (c : Chg S w w') (ho : HOwns w base v h) (hs : ∀ g, HBlk v g → ¬ S g) : HOwns w' base v h := by
  obtain ⟨v2, v3, v4, rfl, q⟩ := ho
  exact ⟨v2, v3, v4, rfl, c.owns q.o0 (fun g hg => hs g ⟨_, _, _, _, _, _, _, _, rfl, Or.inl hg⟩), c.owns q.o1 (fun g hg => hs g ⟨_, _, _, _, _, _, _, _, rfl, Or.inr (Or.inl hg)⟩), c.owns q.o2 (fun g hg => hs g ⟨_, _, _, _, _, _, _, _, rfl, Or.inr (Or.inr hg)⟩), q.a01, q.a02, q.a12⟩
/-- A header of one's own, its lists written out. -/
theorem HOwns.parts {w : World} {base : Nat} {v : Value} {h : H8} (k : HOwns w base v h) : ∃ (a2 a3 a4 : Option Addr) (p2 p3 p4 : Nat), v = .agg #[.int .i64 h.f, .int .i64 h.v, .slice a2 h.d.length p2, .slice a3 h.s.length p3, .slice a4 h.t.length p4, .int .i64 h.n, .int .i64 h.l, .int .i64 h.p] := by
  obtain ⟨v2, v3, v4, rfl, q⟩ := k
  obtain ⟨a2, p2, rfl⟩ := (row_of_owns q.o0).form
  obtain ⟨a3, p3, rfl⟩ := (row_of_owns q.o1).form
  obtain ⟨a4, p4, rfl⟩ := (row_of_owns q.o2).form
  exact ⟨a2, a3, a4, p2, p3, p4, rfl⟩
/-- The header with k, k + 1, .. in all the places of its lists. -/
def H8.marked (h : H8) (q : Int) : H8 :=
  ⟨h.f, h.v, marks q h.d.length, marks (q + (h.d.length : Int)) h.s.length, marks (q + (h.d.length : Int) + (h.s.length : Int)) h.t.length, h.n, h.l, h.p⟩
/-- The eight cells of a block of a book. -/
theorem Book.c8 {w : World} {l : List (Nat × Obj)} (h : Book w l) {b : Nat} {x0 x1 x2 x3 x4 x5 x6 x7 : Value} {t : TypeId} (hm : (b, Obj.cells #[x0, x1, x2, x3, x4, x5, x6, x7] t (0, 0)) ∈ l) :
    w.cell? ⟨b, 0, none⟩ = some x0 ∧ w.cell? ⟨b, 1, none⟩ = some x1 ∧ w.cell? ⟨b, 2, none⟩ = some x2 ∧ w.cell? ⟨b, 3, none⟩ = some x3 ∧ w.cell? ⟨b, 4, none⟩ = some x4 ∧ w.cell? ⟨b, 5, none⟩ = some x5 ∧ w.cell? ⟨b, 6, none⟩ = some x6 ∧ w.cell? ⟨b, 7, none⟩ = some x7 := by
  have hb := h.blk _ _ hm
  refine ⟨?_, ?_, ?_, ?_, ?_, ?_, ?_, ?_⟩ <;> simp [World.cell?, hb]
end Go.Proofs.Ytjdmknlcjejecaa
