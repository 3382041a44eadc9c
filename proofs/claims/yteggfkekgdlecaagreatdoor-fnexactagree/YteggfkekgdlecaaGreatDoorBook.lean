import Derived.Test.YteggfkekgdlecaaGreatDoorKeys
namespace Go.Proofs.YteggfkekgdlecaaGreatDoor
open Go.RowKit
set_option linter.unusedVariables false

/-- The blocks of a law's own variables, and what lies in them. -/
structure Book (wx : World) (L : List (Nat × Obj)) : Prop where
  blk : ∀ b o, (b, o) ∈ L → wx.heap[b]? = some o
theorem Book.nil (wx : World) : Book wx [] := ⟨fun _ _ h => by cases h⟩
theorem Book.lt {wx : World} {L : List (Nat × Obj)} (h : Book wx L) {b : Nat} {o : Obj} (hm : (b, o) ∈ L) : b < wx.heap.size := (Array.getElem?_eq_some_iff.1 (h.blk b o hm)).1
theorem Book.below {wx w' : World} {L : List (Nat × Obj)} (h : Book wx L) (hb : Below wx.heap.size wx w') : Book w' L := ⟨fun b o hm => (hb.block b (h.lt hm)).trans (h.blk b o hm)⟩
theorem Book.chg {wx w' : World} {L : List (Nat × Obj)} {S : Nat → Prop} (h : Book wx L) (hc : Chg S wx w') (hs : ∀ b o, (b, o) ∈ L → ¬ S b) : Book w' L := ⟨fun b o hm => (hc.block b (h.lt hm) (hs b o hm)).trans (h.blk b o hm)⟩
theorem Book.only {wx w' : World} {L : List (Nat × Obj)} {g : Option Nat} (h : Book wx L) (hc : Only g wx w') (hs : ∀ b o, (b, o) ∈ L → g ≠ some b) : Book w' L := ⟨fun b o hm => (hc.block b (fun e => hs b o hm e.symm)).trans (h.blk b o hm)⟩
theorem Book.add {wx : World} {L : List (Nat × Obj)} (h : Book wx L) (o : Obj) : Book (wx.alloc o) ((wx.heap.size, o) :: L) := by
  refine ⟨fun b o' hm => ?_⟩
  rcases List.mem_cons.1 hm with e | hm
  · cases e
    exact (MapKept.heap_alloc wx o).1
  · exact ((h.below ((Below.refl _ _).alloc (Nat.le_refl _) o)).blk b o' hm)
theorem Book.drew {wx : World} {L : List (Nat × Obj)} (h : Book wx L) : Book wx.drew L := ⟨fun b o hm => h.blk b o hm⟩
theorem Book.drewN {wx : World} {L : List (Nat × Obj)} (h : Book wx L) (n : Nat) : Book (wx.drewN n) L := ⟨fun b o hm => h.blk b o hm⟩
/-- The four cells of keys that lie in a block of the book. -/
theorem Book.c4 {wx : World} {L : List (Nat × Obj)} (h : Book wx L) {b t : Nat} {x0 x1 x2 x3 : Value} (hm : (b, Obj.cells #[x0, x1, x2, x3] t (0, 0)) ∈ L) :
    wx.cell? ⟨b, 0, none⟩ = some x0 ∧ wx.cell? ⟨b, 1, none⟩ = some x1 ∧ wx.cell? ⟨b, 2, none⟩ = some x2 ∧ wx.cell? ⟨b, 3, none⟩ = some x3 := by
  have e := h.blk b _ hm
  refine ⟨?_, ?_, ?_, ?_⟩ <;> (simp only [World.cell?, e]; rfl)
theorem KOwns.parts {w : World} {base : Nat} {v : Value} {k : K4} (h : KOwns w base v k) : ∃ a0 a1 a2 a3 p0 p1 p2 p3, v = .agg #[.slice a0 k.a.length p0, .slice a1 k.b.length p1, .slice a2 k.c.length p2, .slice a3 k.d.length p3] := by
  obtain ⟨v0, v1, v2, v3, rfl, q⟩ := h
  obtain ⟨a0, p0, rfl⟩ := (row_of_owns q.o0).form
  obtain ⟨a1, p1, rfl⟩ := (row_of_owns q.o1).form
  obtain ⟨a2, p2, rfl⟩ := (row_of_owns q.o2).form
  obtain ⟨a3, p3, rfl⟩ := (row_of_owns q.o3).form
  exact ⟨a0, a1, a2, a3, p0, p1, p2, p3, rfl⟩
theorem Chg.kowns2 {S : Nat → Prop} {w w' : World} {base : Nat} {v : Value} {k : K4} (h : Chg S w w') (ho : KOwns w base v k) (hs : ∀ g, KBlk v g → ¬ S g) : KOwns w' base v k := by
  obtain ⟨v0, v1, v2, v3, e, q⟩ := ho
  exact ⟨v0, v1, v2, v3, e, h.owns q.o0 (fun g hg => hs g ⟨_, _, _, _, e, Or.inl hg⟩), h.owns q.o1 (fun g hg => hs g ⟨_, _, _, _, e, Or.inr (Or.inl hg)⟩), h.owns q.o2 (fun g hg => hs g ⟨_, _, _, _, e, Or.inr (Or.inr (Or.inl hg))⟩), h.owns q.o3 (fun g hg => hs g ⟨_, _, _, _, e, Or.inr (Or.inr (Or.inr hg))⟩), q.a01, q.a02, q.a03, q.a12, q.a13, q.a23⟩
theorem small_mono {k : K4} {m n : Nat} (h : k.small m) (hm : m ≤ n) : k.small n := ⟨Nat.le_trans h.1 hm, Nat.le_trans h.2.1 hm, Nat.le_trans h.2.2.1 hm, Nat.le_trans h.2.2.2 hm⟩
end Go.Proofs.YteggfkekgdlecaaGreatDoor
