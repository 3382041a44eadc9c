import Derived.Test.YtgifbpongpbjaaaDoorStU
namespace Go.Proofs.YtgifbpongpbjaaaDoor
open Go.RowKit
set_option linter.unusedVariables false

theorem TabF.chg {w w' : World} {S : Nat → Prop} (h : TabF w) (hc : Chg S w w') (h0 : 0 < w.heap.size) (hs : ¬ S 0) : TabF w' := by
  have hb := hc.block _ h0 hs
  have hcell : ∀ j, w'.cell? ⟨0, j, none⟩ = w.cell? ⟨0, j, none⟩ := fun j => by simp only [World.cell?, hb]
  exact ⟨(hcell 0).trans h.c0, (hcell 1).trans h.c1, (hcell 2).trans h.c2, (hcell 3).trans h.c3, (hcell 4).trans h.c4, (hcell 5).trans h.c5, (hcell 6).trans h.c6, (hcell 7).trans h.c7, (hcell 8).trans h.c8, (hcell 9).trans h.c9, (hcell 10).trans h.c10, (hcell 11).trans h.c11⟩
theorem mt1 (st : Nat) (hs : st < 6) : mtV 0 st 1 = decide (st = 0) := by
  have : st = 0 ∨ st = 1 ∨ st = 2 ∨ st = 3 ∨ st = 4 ∨ st = 5 := by omega
  rcases this with rfl | rfl | rfl | rfl | rfl | rfl <;> rfl
theorem mt2 (st : Nat) (hs : st < 6) : mtV 0 st 2 = decide (st = 1) := by
  have : st = 0 ∨ st = 1 ∨ st = 2 ∨ st = 3 ∨ st = 4 ∨ st = 5 := by omega
  rcases this with rfl | rfl | rfl | rfl | rfl | rfl <;> rfl
/-- The end of the turn's contract, at the receiving part. -/
theorem turnR (g c win st x : Nat) (first came gr fin told : Int) (hs : st < 6) (h1 : 1 ≤ x) (h5 : x ≤ 5) (w : World) (ht : TabF w) (h0 : 0 < w.heap.size) (hb : rcB w g c win st first came gr fin told) :
    Calls Tryd.prog 17 #[.pointer (some ⟨g, 0, none⟩), .int .i64 (x : Int)] w fun e w' => e = .returned (.bool (mtV 0 st x)) ∧ rcB w' g c win (if mtV 0 st x then x else st) first came gr fin told ∧ Chg (· = g) w w' := by
  refine (turnI g 0 st x _ _ (by decide) hs h1 h5 w ht h0 hb rfl rfl).mono ?_
  rintro e w' ⟨rfl, h2, h3⟩
  refine ⟨rfl, ?_, h3⟩
  cases hm : mtV 0 st x
  · rw [hm] at h2; exact h2
  · rw [hm] at h2; exact h2
end Go.Proofs.YtgifbpongpbjaaaDoor
