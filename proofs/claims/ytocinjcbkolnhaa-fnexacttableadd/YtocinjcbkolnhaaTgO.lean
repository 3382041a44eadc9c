import Derived.Test.YtocinjcbkolnhaaTgR
import Derived.Deep.RegionWith
import Derived.Deep.RegionHeld3
import Derived.BigRegion
namespace Go.Proofs.Ytocinjcbkolnhaa
open Go.RowKit
set_option linter.unusedVariables false

/-- A table that is worked on: its block, its ring. -/
structure OT (w : World) (G R base : Nat) (f mo ca ad cost : Int) (RL : List SField) : Prop where
  blk : w.heap[G]? = some (.cells #[.slice (some ⟨R, 0, none⟩) 124 124, .int .i64 f, .int .i64 mo, .int .i64 ca, .int .i64 ad, .int .i64 cost] 58 (0, 0))
  row : GOwns 35 2 w base (.slice (some ⟨R, 0, none⟩) 124 124) (SField.L RL)
  len : RL.length = 124
  ne : R ≠ G
theorem OT.cells {w : World} {G R base : Nat} {f mo ca ad cost : Int} {RL : List SField} (h : OT w G R base f mo ca ad cost RL) :
    w.cell? ⟨G, 0, none⟩ = some (.slice (some ⟨R, 0, none⟩) 124 124) ∧ w.cell? ⟨G, 1, none⟩ = some (.int .i64 f) ∧ w.cell? ⟨G, 2, none⟩ = some (.int .i64 mo) ∧ w.cell? ⟨G, 3, none⟩ = some (.int .i64 ca) ∧ w.cell? ⟨G, 4, none⟩ = some (.int .i64 ad) ∧ w.cell? ⟨G, 5, none⟩ = some (.int .i64 cost) :=
  ⟨by rw [bk_cell h.blk]; rfl, by rw [bk_cell h.blk]; rfl, by rw [bk_cell h.blk]; rfl, by rw [bk_cell h.blk]; rfl, by rw [bk_cell h.blk]; rfl, by rw [bk_cell h.blk]; rfl⟩
theorem OT.below {w w' : World} {G R base : Nat} {f mo ca ad cost : Int} {RL : List SField} (h : OT w G R base f mo ca ad cost RL) (hb : Below w.heap.size w w') : OT w' G R base f mo ca ad cost RL :=
  ⟨(hb.block G (Array.getElem?_eq_some_iff.1 h.blk).1).trans h.blk, h.row.below hb, h.len, h.ne⟩
theorem OT.lt {w : World} {G R base : Nat} {f mo ca ad cost : Int} {RL : List SField} (h : OT w G R base f mo ca ad cost RL) : G < w.heap.size ∧ R < w.heap.size ∧ base ≤ R := by
  obtain ⟨zs, ho, _⟩ := h.row
  have := ho.lt R rfl
  exact ⟨(Array.getElem?_eq_some_iff.1 h.blk).1, this.2, this.1⟩
/-- The two cells of a place in the ring. -/
theorem OT.at {w : World} {G R base : Nat} {f mo ca ad cost : Int} {RL : List SField} (h : OT w G R base f mo ca ad cost RL) (p : Nat) (hp : p < 124) :
    w.cell? ⟨R, p * 2, none⟩ = some (.string (RL.getD p default).f0) ∧ w.cell? ⟨R, p * 2 + 1, none⟩ = some (.string (RL.getD p default).f1) ∧ w.frozen? ⟨R, p * 2, none⟩ = false ∧ w.frozen? ⟨R, p * 2 + 1, none⟩ = false := by
  obtain ⟨zs, ho, hz⟩ := h.row
  have hl : (SField.L RL).length = 124 := by rw [List.length_map]; exact h.len
  rw [hl] at ho hz
  have a0 := hz p hp 0 (by decide)
  have a1 := hz p hp 1 (by decide)
  rw [SField.at RL p (by rw [h.len]; exact hp)] at a0 a1
  have c0 := ho.cellAt (p * 2) (by omega)
  have c1 := ho.cellAt (p * 2 + 1) (by omega)
  exact ⟨c0.trans a0, c1.trans a1, ho.frozenAt _, ho.frozenAt _⟩
theorem gown_put {T : TypeId} {w : World} {base R : Nat} {RL : List SField} (h : GOwns T 2 w base (.slice (some ⟨R, 0, none⟩) 124 124) (SField.L RL)) (hl : RL.length = 124) (p : Nat) (hp : p < 124) (a c : ByteArray) :
    GOwns T 2 ((w.setCell ⟨R, p * 2, none⟩ (.string a)).setCell ⟨R, p * 2 + 1, none⟩ (.string c)) base (.slice (some ⟨R, 0, none⟩) 124 124) (SField.L (RL.set p ⟨a, c⟩)) := by
  obtain ⟨zs, ho, hz⟩ := h
  have hL : (SField.L RL).length = 124 := by rw [List.length_map]; exact hl
  have hL2 : (SField.L (RL.set p ⟨a, c⟩)).length = 124 := by rw [List.length_map, List.length_set]; exact hl
  have zl : zs.length = 248 := by have := ho.1; rw [hL] at this; simpa using this
  rw [hL] at ho hz
  refine ⟨(zs.set (p * 2) (.string a)).set (p * 2 + 1) (.string c), by rw [hL2]; exact ((ho.stored (p * 2) (.string a)).1.stored (p * 2 + 1) (.string c)).1, fun j hj q hq => ?_⟩
  rw [hL2] at hj
  rw [SField.at _ j (by rw [List.length_set, hl]; exact hj)]
  by_cases e : j = p
  · subst e
    have e1 : (RL.set j ⟨a, c⟩).getD j default = ⟨a, c⟩ := by simp [List.getD, hl, hj]
    rw [e1]
    obtain rfl | rfl : q = 0 ∨ q = 1 := by omega
    · rw [List.getElem?_set_ne (by omega), show j * 2 + 0 = j * 2 from rfl, List.getElem?_set_self (by omega)]; rfl
    · rw [List.getElem?_set_self (by rw [List.length_set]; omega)]; rfl
  · have e1 : (RL.set p ⟨a, c⟩).getD j default = RL.getD j default := by simp [List.getD, List.getElem?_set_ne (Ne.symm e)]
    rw [e1, ← SField.at RL j (by rw [hl]; exact hj), List.getElem?_set_ne (by omega), List.getElem?_set_ne (by omega)]
    exact hz j hj q hq
theorem OT.put {w : World} {G R base : Nat} {f mo ca ad cost : Int} {RL : List SField} (h : OT w G R base f mo ca ad cost RL) (p : Nat) (hp : p < 124) (a c : ByteArray) :
    OT ((w.setCell ⟨R, p * 2, none⟩ (.string a)).setCell ⟨R, p * 2 + 1, none⟩ (.string c)) G R base f mo ca ad cost (RL.set p ⟨a, c⟩) :=
  ⟨(bk_other h.ne.symm _ _).trans ((bk_other h.ne.symm _ _).trans h.blk), gown_put h.row h.len p hp a c, by rw [List.length_set]; exact h.len, h.ne⟩
theorem OT.setCost {w : World} {G R base : Nat} {f mo ca ad cost : Int} {RL : List SField} (h : OT w G R base f mo ca ad cost RL) (x : Int) :
    OT (w.setCell ⟨G, 5, none⟩ (.int .i64 x)) G R base f mo ca ad x RL :=
  ⟨by rw [bk_set h.blk 5 _]; rfl, GOwns.only (Only.setCell (w := w) ⟨G, 5, none⟩ _) h.row (fun k hk e => by have e1 : R = k := Option.some.inj hk; have e2 : k = G := Option.some.inj e; exact h.ne (e1.trans e2)), h.len, h.ne⟩
end Go.Proofs.Ytocinjcbkolnhaa
