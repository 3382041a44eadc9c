import Derived.Test.YteggfkekgdlecaaGreatDoorKeys
import Derived.Test.YteggfkekgdlecaaGreatDoorBook
namespace Go.Proofs.YteggfkekgdlecaaGreatDoor
open Go.RowKit
set_option linter.unusedVariables false

/-- Parameters: nine numbers, whether it may move, three lists of bytes (Origin, Token, First). -/
structure PP where
  a0 : Int
  a1 : Int
  a2 : Int
  a3 : Int
  a4 : Int
  a5 : Int
  a6 : Int
  a7 : Int
  a8 : Int
  m : Bool
  o : List Int
  t : List Int
  f : List Int
def PP.small (h : PP) (n : Nat) : Prop := h.o.length ≤ n ∧ h.t.length ≤ n ∧ h.f.length ≤ n
def PP.bytes (h : PP) : Prop := Bytes h.o ∧ Bytes h.t ∧ Bytes h.f
def PP.wf (h : PP) : Prop := (Lit.int .i64 h.a0).wf = true ∧ (Lit.int .i64 h.a1).wf = true ∧ (Lit.int .i64 h.a2).wf = true ∧ (Lit.int .i64 h.a3).wf = true ∧ (Lit.int .i64 h.a4).wf = true ∧ (Lit.int .i64 h.a5).wf = true ∧ (Lit.int .i64 h.a6).wf = true ∧ (Lit.int .i64 h.a7).wf = true ∧ (Lit.int .i64 h.a8).wf = true
def PP.total (h : PP) : Int := (h.o.length : Int) + (h.t.length : Int) + (h.f.length : Int)
theorem ppsmall_mono {h : PP} {m n : Nat} (hs : h.small m) (hm : m ≤ n) : h.small n := ⟨Nat.le_trans hs.1 hm, Nat.le_trans hs.2.1 hm, Nat.le_trans hs.2.2 hm⟩
def PPRow (w : World) (v : Value) (h : PP) : Prop :=
  ∃ v2 v3 v4, v = .agg #[.int .i64 h.a0, .int .i64 h.a1, .int .i64 h.a2, .int .i64 h.a3, .int .i64 h.a4, .int .i64 h.a5, .int .i64 h.a6, .int .i64 h.a7, .int .i64 h.a8, .bool h.m, v2, v3, v4] ∧ Row w .u8 v2 h.o ∧ Row w .u8 v3 h.t ∧ Row w .u8 v4 h.f
theorem PPRow.below {w w' : World} {v : Value} {h : PP} (k : PPRow w v h) (hb : Below w.heap.size w w') : PPRow w' v h := by
  obtain ⟨v2, v3, v4, e, h0, h1, h2⟩ := k
  exact ⟨v2, v3, v4, e, h0.below hb, h1.below hb, h2.below hb⟩
/-- The call's own parameters: three rows of its own, no two of them in one block. -/
structure PPOwn (w : World) (base : Nat) (v2 v3 v4 : Value) (h : PP) : Prop where
  o0 : w.ownsRow base 5 1 v2 h.o.length (h.o.map (Value.int .u8))
  o1 : w.ownsRow base 5 1 v3 h.t.length (h.t.map (Value.int .u8))
  o2 : w.ownsRow base 5 1 v4 h.f.length (h.f.map (Value.int .u8))
  a01 : Apart v2 v3
  a02 : Apart v2 v4
  a12 : Apart v3 v4
def PPOwns (w : World) (base : Nat) (v : Value) (h : PP) : Prop := ∃ v2 v3 v4, v = .agg #[.int .i64 h.a0, .int .i64 h.a1, .int .i64 h.a2, .int .i64 h.a3, .int .i64 h.a4, .int .i64 h.a5, .int .i64 h.a6, .int .i64 h.a7, .int .i64 h.a8, .bool h.m, v2, v3, v4] ∧ PPOwn w base v2 v3 v4 h
theorem PPOwns.row {w : World} {base : Nat} {v : Value} {h : PP} (k : PPOwns w base v h) : PPRow w v h := by
  obtain ⟨v2, v3, v4, e, k⟩ := k
  exact ⟨v2, v3, v4, e, row_of_owns k.o0, row_of_owns k.o1, row_of_owns k.o2⟩
theorem PPOwns.below {w w' : World} {base : Nat} {v : Value} {h : PP} (k : PPOwns w base v h) (hb : Below w.heap.size w w') : PPOwns w' base v h := by
  obtain ⟨v2, v3, v4, e, k⟩ := k
  exact ⟨v2, v3, v4, e, owns_below k.o0 hb, owns_below k.o1 hb, owns_below k.o2 hb, k.a01, k.a02, k.a12⟩
theorem PPOwns.mono {w : World} {base base' : Nat} {v : Value} {h : PP} (k : PPOwns w base v h) (hb : base' ≤ base) : PPOwns w base' v h := by
  obtain ⟨v2, v3, v4, e, k⟩ := k
  exact ⟨v2, v3, v4, e, owns_mono k.o0 hb, owns_mono k.o1 hb, owns_mono k.o2 hb, k.a01, k.a02, k.a12⟩
/-- The blocks of parameters. -/
def PPBlk (v : Value) (g : Nat) : Prop := ∃ cs v2 v3 v4, v = .agg cs ∧ cs[10]? = some v2 ∧ cs[11]? = some v3 ∧ cs[12]? = some v4 ∧ (v2.ownBlock = some g ∨ v3.ownBlock = some g ∨ v4.ownBlock = some g)
theorem PPOwns.blk {w : World} {base : Nat} {v : Value} {h : PP} (k : PPOwns w base v h) (g : Nat) (hg : PPBlk v g) : base ≤ g ∧ g < w.heap.size := by
  obtain ⟨v2, v3, v4, e, q⟩ := k
  obtain ⟨cs, u2, u3, u4, e', c2, c3, c4, hb⟩ := hg
  rw [e] at e'
  cases e'
  simp at c2 c3 c4
  subst c2 c3 c4
  rcases hb with hb | hb | hb
  · exact q.o0.lt g hb
  · exact q.o1.lt g hb
  · exact q.o2.lt g hb
theorem Chg.ppowns2 {S : Nat → Prop} {w w' : World} {base : Nat} {v : Value} {h : PP} (c : Chg S w w') (ho : PPOwns w base v h) (hs : ∀ g, PPBlk v g → ¬ S g) : PPOwns w' base v h := by
  obtain ⟨v2, v3, v4, rfl, q⟩ := ho
  exact ⟨v2, v3, v4, rfl, c.owns q.o0 (fun g hg => hs g ⟨_, _, _, _, rfl, rfl, rfl, rfl, Or.inl hg⟩), c.owns q.o1 (fun g hg => hs g ⟨_, _, _, _, rfl, rfl, rfl, rfl, Or.inr (Or.inl hg)⟩), c.owns q.o2 (fun g hg => hs g ⟨_, _, _, _, rfl, rfl, rfl, rfl, Or.inr (Or.inr hg)⟩), q.a01, q.a02, q.a12⟩
/-- Parameters of one's own, their lists written out. -/
theorem PPOwns.parts {w : World} {base : Nat} {v : Value} {h : PP} (k : PPOwns w base v h) : ∃ (a2 a3 a4 : Option Addr) (p2 p3 p4 : Nat), v = .agg #[.int .i64 h.a0, .int .i64 h.a1, .int .i64 h.a2, .int .i64 h.a3, .int .i64 h.a4, .int .i64 h.a5, .int .i64 h.a6, .int .i64 h.a7, .int .i64 h.a8, .bool h.m, .slice a2 h.o.length p2, .slice a3 h.t.length p3, .slice a4 h.f.length p4] := by
  obtain ⟨v2, v3, v4, rfl, q⟩ := k
  obtain ⟨a2, p2, rfl⟩ := (row_of_owns q.o0).form
  obtain ⟨a3, p3, rfl⟩ := (row_of_owns q.o1).form
  obtain ⟨a4, p4, rfl⟩ := (row_of_owns q.o2).form
  exact ⟨a2, a3, a4, p2, p3, p4, rfl⟩
theorem PPRow.parts {w : World} {v : Value} {h : PP} (k : PPRow w v h) : ∃ (a2 a3 a4 : Option Addr) (p2 p3 p4 : Nat), v = .agg #[.int .i64 h.a0, .int .i64 h.a1, .int .i64 h.a2, .int .i64 h.a3, .int .i64 h.a4, .int .i64 h.a5, .int .i64 h.a6, .int .i64 h.a7, .int .i64 h.a8, .bool h.m, .slice a2 h.o.length p2, .slice a3 h.t.length p3, .slice a4 h.f.length p4] ∧ Row w .u8 (.slice a2 h.o.length p2) h.o ∧ Row w .u8 (.slice a3 h.t.length p3) h.t ∧ Row w .u8 (.slice a4 h.f.length p4) h.f := by
  obtain ⟨v2, v3, v4, rfl, q0, q1, q2⟩ := k
  obtain ⟨a2, p2, rfl⟩ := q0.form
  obtain ⟨a3, p3, rfl⟩ := q1.form
  obtain ⟨a4, p4, rfl⟩ := q2.form
  exact ⟨a2, a3, a4, p2, p3, p4, rfl, q0, q1, q2⟩
/-- The parameters with k, k + 1, .. in all the places of their lists. -/
def PP.marked (h : PP) (q : Int) : PP :=
  ⟨h.a0, h.a1, h.a2, h.a3, h.a4, h.a5, h.a6, h.a7, h.a8, h.m, marks q h.o.length, marks (q + (h.o.length : Int)) h.t.length, marks (q + (h.o.length : Int) + (h.t.length : Int)) h.f.length⟩
/-- The thirteen cells of a block of a book. -/
theorem Book.c13 {w : World} {l : List (Nat × Obj)} (h : Book w l) {b : Nat} {x0 x1 x2 x3 x4 x5 x6 x7 x8 x9 x10 x11 x12 : Value} {t : TypeId} (hm : (b, Obj.cells #[x0, x1, x2, x3, x4, x5, x6, x7, x8, x9, x10, x11, x12] t (0, 0)) ∈ l) :
    w.cell? ⟨b, 0, none⟩ = some x0 ∧ w.cell? ⟨b, 1, none⟩ = some x1 ∧ w.cell? ⟨b, 2, none⟩ = some x2 ∧ w.cell? ⟨b, 3, none⟩ = some x3 ∧ w.cell? ⟨b, 4, none⟩ = some x4 ∧ w.cell? ⟨b, 5, none⟩ = some x5 ∧ w.cell? ⟨b, 6, none⟩ = some x6 ∧ w.cell? ⟨b, 7, none⟩ = some x7 ∧ w.cell? ⟨b, 8, none⟩ = some x8 ∧ w.cell? ⟨b, 9, none⟩ = some x9 ∧ w.cell? ⟨b, 10, none⟩ = some x10 ∧ w.cell? ⟨b, 11, none⟩ = some x11 ∧ w.cell? ⟨b, 12, none⟩ = some x12 := by
  have hb := h.blk _ _ hm
  refine ⟨?_, ?_, ?_, ?_, ?_, ?_, ?_, ?_, ?_, ?_, ?_, ?_, ?_⟩ <;> simp [World.cell?, hb]
end Go.Proofs.YteggfkekgdlecaaGreatDoor
