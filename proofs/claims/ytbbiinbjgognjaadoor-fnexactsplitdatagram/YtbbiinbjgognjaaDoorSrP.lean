import Derived.Test.YtbbiinbjgognjaaDoorSrR
namespace Go.Proofs.YtbbiinbjgognjaaDoor
open Go.RowKit
set_option linter.unusedVariables false

/-- The state of l04Peek: the answer's room, the empty header, the reader. -/
structure PS (w wx : World) (vb : Value) (p : Int) (sh : Bool) : Prop where
  bel : Below w.heap.size w wx
  r0 : hdB wx w.heap.size (.int .i64 0) (.int .i64 0) (.slice none 0 0) (.slice none 0 0) (.slice none 0 0) (.int .i64 0) (.int .i64 0) (.int .i64 0)
  r1 : hdB wx (w.heap.size + 1) (.int .i64 0) (.int .i64 0) (.slice none 0 0) (.slice none 0 0) (.slice none 0 0) (.int .i64 0) (.int .i64 0) (.int .i64 0)
  rd : srB wx (w.heap.size + 1 + 1) vb p sh
theorem PS.next {w wx w' : World} {vb : Value} {p p' : Int} {sh sh' : Bool} (h : PS w wx vb p sh) (r : srB w' (w.heap.size + 1 + 1) vb p' sh') (c : Chg (· = w.heap.size + 1 + 1) wx w') : PS w w' vb p' sh' :=
  ⟨h.bel.trans (c.below h.bel.size (fun k hk => by omega)), (c.block _ ((Array.getElem?_eq_some_iff.1 h.r0).1) (by omega)).trans h.r0, (c.block _ ((Array.getElem?_eq_some_iff.1 h.r1).1) (by omega)).trans h.r1, r⟩
theorem PS.grow {w wx w' : World} {vb : Value} {p : Int} {sh : Bool} (h : PS w wx vb p sh) (b : Below wx.heap.size wx w') : PS w w' vb p sh :=
  ⟨h.bel.trans (b.mono h.bel.size), (b.block _ ((Array.getElem?_eq_some_iff.1 h.r0).1)).trans h.r0, (b.block _ ((Array.getElem?_eq_some_iff.1 h.r1).1)).trans h.r1, h.rd.below b⟩
theorem PS.hset {w wx : World} {vb : Value} {p : Int} {sh : Bool} (h : PS w wx vb p sh) (hb i : Nat) (u : Value) (hl : w.heap.size + 3 ≤ hb) : PS w (wx.setCell ⟨hb, i, none⟩ u) vb p sh :=
  ⟨h.bel.setCell (p := ⟨hb, i, none⟩) (by show w.heap.size ≤ hb; omega) _, (bk_other (by omega) i u).trans h.r0, (bk_other (by omega) i u).trans h.r1, (bk_other (by omega) i u).trans h.rd⟩
theorem PS.zend {w wx : World} {vb : Value} {p : Int} {sh : Bool} (h : PS w wx vb p sh) : Below w.heap.size w (st8 wx w.heap.size (.int .i64 0) (.int .i64 0) (.slice none 0 0) (.slice none 0 0) (.slice none 0 0) (.int .i64 0) (.int .i64 0) (.int .i64 0)) ∧ (st8 wx w.heap.size (.int .i64 0) (.int .i64 0) (.slice none 0 0) (.slice none 0 0) (.slice none 0 0) (.int .i64 0) (.int .i64 0) (.int .i64 0)).heap[w.heap.size]? = some (.cells #[.int .i64 0, .int .i64 0, .slice none 0 0, .slice none 0 0, .slice none 0 0, .int .i64 0, .int .i64 0, .int .i64 0] 24 (0, 0)) :=
  ⟨st8_below h.bel (Nat.le_refl _), st8_heap h.r0⟩
theorem below_drew' {B : Nat} {w X : World} (h : Below B w X) : Below B w X.drew := ⟨h.os, h.tape, h.output, h.size, h.block⟩
theorem PS.zendD {w wx : World} {vb : Value} {p : Int} {sh : Bool} (h : PS w wx vb p sh) : Below w.heap.size w (st8 wx w.heap.size (.int .i64 0) (.int .i64 0) (.slice none 0 0) (.slice none 0 0) (.slice none 0 0) (.int .i64 0) (.int .i64 0) (.int .i64 0)).drew ∧ (st8 wx w.heap.size (.int .i64 0) (.int .i64 0) (.slice none 0 0) (.slice none 0 0) (.slice none 0 0) (.int .i64 0) (.int .i64 0) (.int .i64 0)).drew.heap[w.heap.size]? = some (.cells #[.int .i64 0, .int .i64 0, .slice none 0 0, .slice none 0 0, .slice none 0 0, .int .i64 0, .int .i64 0, .int .i64 0] 24 (0, 0)) :=
  ⟨below_drew' h.zend.1, (drew_heap _ _).trans h.zend.2⟩
theorem three_blocks (w : World) (o0 o1 o2 : Obj) : (((w.alloc o0).alloc o1).alloc o2).heap[w.heap.size]? = some o0 ∧ (((w.alloc o0).alloc o1).alloc o2).heap[w.heap.size + 1]? = some o1 ∧ (((w.alloc o0).alloc o1).alloc o2).heap[w.heap.size + 1 + 1]? = some o2 := bk_new3 w o0 o1 o2
abbrev psW (w : World) (vb : Value) : World := ((w.alloc (.cells #[.int .i64 0, .int .i64 0, .slice none 0 0, .slice none 0 0, .slice none 0 0, .int .i64 0, .int .i64 0, .int .i64 0] 24)).alloc (.cells #[.int .i64 0, .int .i64 0, .slice none 0 0, .slice none 0 0, .slice none 0 0, .int .i64 0, .int .i64 0, .int .i64 0] 24)).alloc (.cells #[vb, .int .i64 0, .bool false] 58)
theorem ps_new (w : World) (vb : Value) : PS w (psW w vb) vb 0 false := by
  obtain ⟨e0, e1, e2⟩ := three_blocks w (.cells #[.int .i64 0, .int .i64 0, .slice none 0 0, .slice none 0 0, .slice none 0 0, .int .i64 0, .int .i64 0, .int .i64 0] 24) (.cells #[.int .i64 0, .int .i64 0, .slice none 0 0, .slice none 0 0, .slice none 0 0, .int .i64 0, .int .i64 0, .int .i64 0] 24) (.cells #[vb, .int .i64 0, .bool false] 58)
  exact ⟨(((Below.refl _ _).alloc (Nat.le_refl _) _).alloc (by simp) _).alloc (by simp <;> omega) _, e0, e1, e2⟩
theorem faultS_t (g : Nat) (vb : Value) (p : Int) (w : World) (h : srB w g vb p true) : Calls Tryd.prog 38 #[.pointer (some ⟨g, 0, none⟩)] w fun e w' => e = .returned (.int .i64 2) ∧ w' = w := faultS g vb p true w h
theorem faultS_f (g : Nat) (vb : Value) (p : Int) (w : World) (h : srB w g vb p false) : Calls Tryd.prog 38 #[.pointer (some ⟨g, 0, none⟩)] w fun e w' => e = .returned (.int .i64 3) ∧ w' = w := faultS g vb p false w h
/-- What l04Peek gives. -/
def PkPost (xs : List Int) (cl : Int) (w : World) (e : Ending) (w' : World) : Prop := Below w.heap.size w w' ∧ ((∃ c, pk xs cl = .error c ∧ e = .returned (.tuple #[.agg #[.int .i64 0, .int .i64 0, .slice none 0 0, .slice none 0 0, .slice none 0 0, .int .i64 0, .int .i64 0, .int .i64 0], .int .i64 0, .int .i64 c])) ∨
  ∃ K vd vs vt, pk xs cl = .ok K ∧ e = .returned (.tuple #[.agg #[.int .i64 K.f, .int .i64 K.v, vd, vs, vt, .int .i64 0, .int .i64 0, .int .i64 0], .int .i64 K.fin, .int .i64 0]) ∧ HOwn w' w.heap.size vd vs vt ⟨K.f, K.v, K.d, K.s, K.t, 0, 0, 0⟩)
end Go.Proofs.YtbbiinbjgognjaaDoor
