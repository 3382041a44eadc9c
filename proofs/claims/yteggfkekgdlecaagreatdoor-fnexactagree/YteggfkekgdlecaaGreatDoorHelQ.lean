import Derived.Test.YteggfkekgdlecaaGreatDoorHelP
import Derived.Test.YteggfkekgdlecaaGreatDoorSzHel
namespace Go.Proofs.YteggfkekgdlecaaGreatDoor
open Go.RowKit
set_option linter.unusedVariables false

theorem hetot_nn (h : HE) : 0 ≤ h.total := by
  have := ttot_nn h.nms
  have := pptot_nn h.par
  unfold HE.total
  omega
theorem tsum_at (L : List ByteArray) (j : Nat) : ((L.getD j ByteArray.empty).size : Int) ≤ (tsum L L.length : Int) := by
  by_cases hj : j < L.length
  · have e := tsum_succ L j hj
    have m := tsum_mono L (L.length - (j + 1)) (j + 1) (by omega)
    rw [show j + 1 + (L.length - (j + 1)) = L.length by omega] at m
    omega
  · rw [List.getD, List.getElem?_eq_none (by omega)]
    simp
theorem he_small {h : HE} {n : Nat} (ht : h.total ≤ (n : Int)) : h.small n ∧ h.texts n := by
  have a := ttot_nn h.nms
  have b := pptot_nn h.par
  unfold HE.total at ht
  have e : ttot h.nms = (h.nms.length : Int) + (tsum h.nms h.nms.length : Int) := rfl
  have f : h.par.total = (h.par.o.length : Int) + (h.par.t.length : Int) + (h.par.f.length : Int) := rfl
  refine ⟨⟨by omega, by omega, by omega, by omega, by omega, by omega⟩, fun j => ?_⟩
  have := tsum_at h.nms j
  omega
theorem heszF (v : Value) (h : HE) (l : Int) (w : World) (hr : HERow w v h) (hs : h.small 9223372036854775807) (hl0 : 0 ≤ l) (hl1 : l ≤ 9223372036854775807) (hf : h.total ≤ l) :
    Calls Tryz.prog 4 #[v, .int .i64 l] w fun e w' => e = .returned (.int .i64 (l - h.total)) ∧ Below w.heap.size w w' := by
  have a := ttot_nn h.nms
  have b := pptot_nn h.par
  have t := (he_small (h := h) (n := 9223372036854775807) (by omega)).2
  have e : l - h.total = l - (h.rnd.length : Int) - (h.vers.length : Int) - ttot h.nms - h.par.total := by unfold HE.total; omega
  rw [e]
  unfold HE.total at hf
  exact hesz_fit v h l w hr hs t hl0 hl1 (by omega) (by omega) (by omega) (by omega)
theorem heszO (v : Value) (h : HE) (l : Int) (w : World) (hr : HERow w v h) (hs : h.small 9223372036854775807 ∧ h.texts 9223372036854775807) (hl0 : 0 ≤ l) (hl1 : l ≤ 9223372036854775807) (ho : l < h.total) :
    Calls Tryz.prog 4 #[v, .int .i64 l] w fun e w' => e = .returned (.int .i64 (-1)) ∧ Below w.heap.size w w' := hesz_over v h l w hr hs.1 hs.2 hl0 hl1 ho
theorem he_mono2 {h : HE} {m n : Nat} (hs : h.small m ∧ h.texts m) (hm : m ≤ n) : h.small n ∧ h.texts n := ⟨hesmall_mono hs.1 hm, fun j => Nat.le_trans (hs.2 j) hm⟩
theorem HEOwns.parts {w : World} {base : Nat} {v : Value} {h : HE} (k : HEOwns w base v h) : ∃ (a0 a1 a2 a3 a4 a5 : Option Addr) (p0 p1 p2 p3 p4 p5 : Nat), v = .agg #[.int .i64 h.kd, .int .i64 h.vr, .slice a0 h.rnd.length p0, .slice a1 h.vers.length p1, .slice a2 h.nms.length p2, .int .i64 h.par.a0, .int .i64 h.par.a1, .int .i64 h.par.a2, .int .i64 h.par.a3, .int .i64 h.par.a4, .int .i64 h.par.a5, .int .i64 h.par.a6, .int .i64 h.par.a7, .int .i64 h.par.a8, .bool h.par.m, .slice a3 h.par.o.length p3, .slice a4 h.par.t.length p4, .slice a5 h.par.f.length p5] := by
  obtain ⟨v0, v1, v2, v3, v4, v5, rfl, q⟩ := k
  obtain ⟨a0, p0, rfl⟩ := (row_of_owns q.o0).form
  obtain ⟨a1, p1, rfl⟩ := (row_of_owns q.o1).form
  obtain ⟨a2, p2, rfl⟩ := (trow_of_owns q.o2).form
  obtain ⟨a3, p3, rfl⟩ := (row_of_owns q.o3).form
  obtain ⟨a4, p4, rfl⟩ := (row_of_owns q.o4).form
  obtain ⟨a5, p5, rfl⟩ := (row_of_owns q.o5).form
  exact ⟨a0, a1, a2, a3, a4, a5, p0, p1, p2, p3, p4, p5, rfl⟩
/-- The eighteen cells of a block of a book. -/
theorem Book.c18 {w : World} {l : List (Nat × Obj)} (h : Book w l) {b : Nat} {x0 x1 x2 x3 x4 x5 x6 x7 x8 x9 x10 x11 x12 x13 x14 x15 x16 x17 : Value} {t : TypeId} (hm : (b, Obj.cells #[x0, x1, x2, x3, x4, x5, x6, x7, x8, x9, x10, x11, x12, x13, x14, x15, x16, x17] t (0, 0)) ∈ l) :
    w.cell? ⟨b, 0, none⟩ = some x0 ∧ w.cell? ⟨b, 1, none⟩ = some x1 ∧ w.cell? ⟨b, 2, none⟩ = some x2 ∧ w.cell? ⟨b, 3, none⟩ = some x3 ∧ w.cell? ⟨b, 4, none⟩ = some x4 ∧ w.cell? ⟨b, 5, none⟩ = some x5 ∧ w.cell? ⟨b, 6, none⟩ = some x6 ∧ w.cell? ⟨b, 7, none⟩ = some x7 ∧ w.cell? ⟨b, 8, none⟩ = some x8 ∧ w.cell? ⟨b, 9, none⟩ = some x9 ∧ w.cell? ⟨b, 10, none⟩ = some x10 ∧ w.cell? ⟨b, 11, none⟩ = some x11 ∧ w.cell? ⟨b, 12, none⟩ = some x12 ∧ w.cell? ⟨b, 13, none⟩ = some x13 ∧ w.cell? ⟨b, 14, none⟩ = some x14 ∧ w.cell? ⟨b, 15, none⟩ = some x15 ∧ w.cell? ⟨b, 16, none⟩ = some x16 ∧ w.cell? ⟨b, 17, none⟩ = some x17 := by
  have hb := h.blk _ _ hm
  refine ⟨?_, ?_, ?_, ?_, ?_, ?_, ?_, ?_, ?_, ?_, ?_, ?_, ?_, ?_, ?_, ?_, ?_, ?_⟩ <;> simp [World.cell?, hb]
end Go.Proofs.YteggfkekgdlecaaGreatDoor
