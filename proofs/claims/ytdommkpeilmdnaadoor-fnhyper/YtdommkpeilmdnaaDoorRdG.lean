import Derived.Test.YtdommkpeilmdnaaDoorRdJ
namespace Go.Proofs.YtdommkpeilmdnaaDoor
open Go.RowKit
set_option linter.unusedVariables false

theorem Chg.mono {S T : Nat → Prop} {w w' : World} (h : Chg S w w') (hs : ∀ k, S k → T k) : Chg T w w' := ⟨h.os, h.tape, h.output, h.size, fun k hk hn => h.block k hk (fun hh => hn (hs k hh))⟩
theorem Chg.set {S : Nat → Prop} {w w' : World} (h : Chg S w w') (g i : Nat) (u : Value) (hg : S g) : Chg S w (w'.setCell ⟨g, i, none⟩ u) :=
  h.trans ⟨rfl, rfl, rfl, by simp [World.setCell], fun q hq hs => bk_other (fun e => hs (by rw [e]; exact hg)) i u⟩
/-- The blocks of the reader and of what is peeked. -/
abbrev SG (g pb : Nat) : Nat → Prop := fun k => k = g ∨ k = pb
theorem Chg.toG {g pb : Nat} {w w' : World} (h : Chg (· = g) w w') : Chg (SG g pb) w w' := h.mono fun _ hk => Or.inl hk
theorem Chg.setP {g pb : Nat} {w w' : World} (h : Chg (SG g pb) w w') (i : Nat) (u : Value) : Chg (SG g pb) w (w'.setCell ⟨pb, i, none⟩ u) := h.set pb i u (Or.inr rfl)
theorem Chg.drew {S : Nat → Prop} {w w' : World} (h : Chg S w w') : Chg S w w'.drew := h.trans ⟨rfl, rfl, rfl, Nat.le_refl _, fun _ _ _ => rfl⟩
theorem Chg.refl (S : Nat → Prop) (w : World) : Chg S w w := ⟨rfl, rfl, rfl, Nat.le_refl _, fun _ _ _ => rfl⟩
theorem rdB.chg {w w' : World} {g : Nat} {vb : Value} {p : Int} {S : Nat → Prop} (h : rdB w g vb p) (hc : Chg S w w') (hs : ¬ S g) : rdB w' g vb p := (hc.block g h.lt hs).trans h
theorem rdB.other {w : World} {g q i : Nat} {vb u : Value} {p : Int} (h : rdB w g vb p) (hq : q ≠ g) : rdB (w.setCell ⟨q, i, none⟩ u) g vb p := (bk_other (fun e => hq e.symm) i u).trans h
theorem sizeS (w : World) (a : Addr) (u : Value) : (w.setCell a u).heap.size = w.heap.size := by simp [World.setCell]
theorem Tab.chg {w w' : World} {S : Nat → Prop} (h : Tab w) (hc : Chg S w w') (hs : ¬ S 1) : Tab w' := by
  have e := hc.block _ h.lt hs
  exact ⟨by rw [← h.c0]; simp only [World.cell?, e], by rw [← h.c1]; simp only [World.cell?, e], by rw [← h.c2]; simp only [World.cell?, e], by rw [← h.c3]; simp only [World.cell?, e]⟩
end Go.Proofs.YtdommkpeilmdnaaDoor
