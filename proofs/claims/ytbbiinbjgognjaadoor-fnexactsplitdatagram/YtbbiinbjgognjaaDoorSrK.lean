import Derived.Test.YtbbiinbjgognjaaDoorSrP
namespace Go.Proofs.YtbbiinbjgognjaaDoor
open Go.RowKit
set_option linter.unusedVariables false

theorem pk_long (xs : List Int) (m : Nat) (hn : xs.length ≤ 65536) (h1 : 1 ≤ xs.length) (hm : m ≤ 8) (hF : ¬ vals (sub xs 0 1) < 128) : pk xs m = pkLong xs (vals (sub xs 0 1)) := by
  unfold pk; rw [if_neg (by omega), if_neg (by omega), if_neg (by omega), if_neg (by omega), if_neg hF]
theorem cid_e1 (xs : List Int) (p : Nat) (h : xs.length < p + 1) : pkCid xs p = .error 2 := by unfold pkCid; rw [if_pos h]
theorem cid_e2 (xs : List Int) (p V : Nat) (h : ¬ xs.length < p + 1) (hV : vals (sub xs p 1) = (V : Int)) (h8 : 8 < V) : pkCid xs p = .error 3 := by unfold pkCid; rw [if_neg h, hV, if_pos (by omega)]
theorem cid_e3 (xs : List Int) (p V : Nat) (h : ¬ xs.length < p + 1) (hV : vals (sub xs p 1) = (V : Int)) (h8 : ¬ 8 < V) (hs : xs.length < p + 1 + V) : pkCid xs p = .error 2 := by unfold pkCid; rw [if_neg h, hV, if_neg (by omega), Int.toNat_natCast, if_pos hs]
theorem cid_ok (xs : List Int) (p V : Nat) (h : ¬ xs.length < p + 1) (hV : vals (sub xs p 1) = (V : Int)) (h8 : ¬ 8 < V) (hs : ¬ xs.length < p + 1 + V) : pkCid xs p = .ok (sub xs (p + 1) V, p + 1 + V) := by unfold pkCid; rw [if_neg h, hV, if_neg (by omega), Int.toNat_natCast, if_neg hs]
/-- The state of l04Peek behind the version: the header under way in the block hb. -/
structure PH (w wx : World) (hb : Nat) (vb : Value) (p : Int) (sh : Bool) (a0 a1 a2 a3 a4 : Value) : Prop where
  ps : PS w wx vb p sh
  hd : hdB wx hb a0 a1 a2 a3 a4 (.int .i64 0) (.int .i64 0) (.int .i64 0)
  lo : w.heap.size + 3 ≤ hb
theorem PH.next {w wx w' : World} {hb : Nat} {vb : Value} {p p' : Int} {sh sh' : Bool} {a0 a1 a2 a3 a4 : Value} (h : PH w wx hb vb p sh a0 a1 a2 a3 a4) (r : srB w' (w.heap.size + 1 + 1) vb p' sh') (c : Chg (· = w.heap.size + 1 + 1) wx w') : PH w w' hb vb p' sh' a0 a1 a2 a3 a4 :=
  ⟨h.ps.next r c, (c.block hb ((Array.getElem?_eq_some_iff.1 h.hd).1) (by have := h.lo; omega)).trans h.hd, h.lo⟩
theorem ph_new {w w2 : World} {vb : Value} {p : Int} {sh : Bool} (h : PS w w2 vb p sh) (v : Int) : PH w (w2.alloc (.cells #[.int .i64 0, .int .i64 v, .slice none 0 0, .slice none 0 0, .slice none 0 0, .int .i64 0, .int .i64 0, .int .i64 0] 24)) w2.heap.size vb p sh (.int .i64 0) (.int .i64 v) (.slice none 0 0) (.slice none 0 0) (.slice none 0 0) :=
  ⟨h.grow ((Below.refl _ _).alloc (Nat.le_refl _) _), heap_alloc_new w2 _, by have := h.rd.lt; omega⟩
theorem PH.set0 {w wx : World} {hb : Nat} {vb : Value} {p : Int} {sh : Bool} {a0 a1 a2 a3 a4 : Value} (h : PH w wx hb vb p sh a0 a1 a2 a3 a4) (u : Value) : PH w (wx.setCell ⟨hb, 0, none⟩ u) hb vb p sh u a1 a2 a3 a4 := ⟨h.ps.hset hb 0 u h.lo, (bk_set h.hd 0 u).trans (congrArg (fun x => some (Obj.cells x 24 (0, 0))) (by simp)), h.lo⟩
theorem PH.set2 {w wx : World} {hb : Nat} {vb : Value} {p : Int} {sh : Bool} {a0 a1 a2 a3 a4 : Value} (h : PH w wx hb vb p sh a0 a1 a2 a3 a4) (u : Value) : PH w (wx.setCell ⟨hb, 2, none⟩ u) hb vb p sh a0 a1 u a3 a4 := ⟨h.ps.hset hb 2 u h.lo, (bk_set h.hd 2 u).trans (congrArg (fun x => some (Obj.cells x 24 (0, 0))) (by simp)), h.lo⟩
theorem PH.set3 {w wx : World} {hb : Nat} {vb : Value} {p : Int} {sh : Bool} {a0 a1 a2 a3 a4 : Value} (h : PH w wx hb vb p sh a0 a1 a2 a3 a4) (u : Value) : PH w (wx.setCell ⟨hb, 3, none⟩ u) hb vb p sh a0 a1 a2 u a4 := ⟨h.ps.hset hb 3 u h.lo, (bk_set h.hd 3 u).trans (congrArg (fun x => some (Obj.cells x 24 (0, 0))) (by simp)), h.lo⟩
theorem PH.set4 {w wx : World} {hb : Nat} {vb : Value} {p : Int} {sh : Bool} {a0 a1 a2 a3 a4 : Value} (h : PH w wx hb vb p sh a0 a1 a2 a3 a4) (u : Value) : PH w (wx.setCell ⟨hb, 4, none⟩ u) hb vb p sh a0 a1 a2 a3 u := ⟨h.ps.hset hb 4 u h.lo, (bk_set h.hd 4 u).trans (congrArg (fun x => some (Obj.cells x 24 (0, 0))) (by simp)), h.lo⟩
theorem srB.drewX {w : World} {g : Nat} {vb : Value} {p : Int} {sh : Bool} (h : srB w g vb p sh) : srB w.drew g vb p sh := h
theorem beh_e1 (xs : List Int) (p : Nat) (h : ¬ varOK xs p) : pkBeh xs p = .error 2 := by unfold pkBeh; rw [if_neg h]
theorem beh_e2 (xs : List Int) (p U : Nat) (h : varOK xs p) (hU : varV xs p = (U : Int)) (hb : U < 12 ∨ 1508 < U) : pkBeh xs p = .error 3 := by unfold pkBeh; rw [if_pos h, hU, if_pos (by omega)]
theorem beh_e3 (xs : List Int) (p U M : Nat) (h : varOK xs p) (hU : varV xs p = (U : Int)) (hM : varN xs p = M) (hb : ¬ (U < 12 ∨ 1508 < U)) (hs : xs.length < M + U) : pkBeh xs p = .error 2 := by unfold pkBeh; rw [if_pos h, hU, hM, if_neg (by omega), Int.toNat_natCast, if_pos hs]
theorem beh_ok (xs : List Int) (p U M : Nat) (h : varOK xs p) (hU : varV xs p = (U : Int)) (hM : varN xs p = M) (hb : ¬ (U < 12 ∨ 1508 < U)) (hs : ¬ xs.length < M + U) : pkBeh xs p = .ok (M, M + U) := by unfold pkBeh; rw [if_pos h, hU, hM, if_neg (by omega), Int.toNat_natCast, if_neg hs]
theorem PH.ne {w wx : World} {hb : Nat} {vb : Value} {p : Int} {sh : Bool} {a0 a1 a2 a3 a4 : Value} (h : PH w wx hb vb p sh a0 a1 a2 a3 a4) : ¬ w.heap.size = hb ∧ ¬ w.heap.size + 1 = hb ∧ ¬ w.heap.size + 1 + 1 = hb ∧ ¬ hb = w.heap.size ∧ ¬ hb = w.heap.size + 1 ∧ ¬ hb = w.heap.size + 1 + 1 := by have := h.lo; omega
end Go.Proofs.YtbbiinbjgognjaaDoor
