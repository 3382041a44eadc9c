import Derived.Test.YthjakbpcpfmbjaaBlocks
namespace Go.Proofs.Ythjakbpcpfmbjaa
open Go.RowKit
set_option linter.unusedVariables false

/-- What stays: the blocks below base, and those whose type is none of S. -/
structure ChT (S : TypeId → Bool) (base : Nat) (w w' : World) : Prop where
  os : w'.os = w.os
  tape : w'.tape = w.tape
  output : w'.output = w.output
  size : w.heap.size ≤ w'.heap.size
  block : ∀ k, k < w.heap.size → (k < base ∨ ∃ c T fr, w.heap[k]? = some (.cells c T fr) ∧ S T = false) → w'.heap[k]? = w.heap[k]?
section
variable {S : TypeId → Bool} {base : Nat} {w w1 w2 w' : World}
theorem ChT.refl (S : TypeId → Bool) (base : Nat) (w : World) : ChT S base w w := ⟨rfl, rfl, rfl, Nat.le_refl _, fun _ _ _ => rfl⟩
theorem ChT.trans (h : ChT S base w w1) (k : ChT S base w1 w2) : ChT S base w w2 :=
  ⟨k.os.trans h.os, k.tape.trans h.tape, k.output.trans h.output, Nat.le_trans h.size k.size, fun i hi hs => by
    have e := h.block i hi hs
    exact (k.block i (Nat.lt_of_lt_of_le hi h.size) (by rw [e]; exact hs)).trans e⟩
theorem ChT.of_below (h : Below w.heap.size w w') : ChT S base w w' := ⟨h.os, h.tape, h.output, h.size, fun k hk _ => h.block k hk⟩
theorem ChT.toBelow (h : ChT S base w w') (hb : base ≤ w.heap.size) : Below base w w' := ⟨h.os, h.tape, h.output, h.size, fun k hk => h.block k (by omega) (Or.inl hk)⟩
theorem ChT.drewN (h : ChT S base w w1) (n : Nat) : ChT S base w (w1.drewN n) := ⟨h.os, h.tape, h.output, h.size, h.block⟩
theorem ChT.drew (h : ChT S base w w1) : ChT S base w w1.drew := ⟨h.os, h.tape, h.output, h.size, h.block⟩
theorem ChT.alloc (h : ChT S base w w1) (o : Obj) : ChT S base w (w1.alloc o) :=
  h.trans (ChT.of_below ((Below.refl _ _).alloc (Nat.le_refl _) o))
theorem setCell_sizeT (w : World) (p : Addr) (v : Value) : (w.setCell p v).heap.size = w.heap.size := by simp [World.setCell]
/-- A store into a block that was not there at first. -/
theorem ChT.setN (h : ChT S base w w1) {k : Nat} (hk : w.heap.size ≤ k) (o : Nat) (v : Value) : ChT S base w (w1.setCell ⟨k, o, none⟩ v) :=
  ⟨h.os, h.tape, h.output, by rw [setCell_sizeT]; exact h.size, fun i hi hs => (bk_other (by omega) o v).trans (h.block i hi hs)⟩
/-- A store into a block that may turn. -/
theorem ChT.set (h : ChT S base w w1) {k : Nat} {c : Array Value} {T : TypeId} {fr : Nat × Nat} (hk : w1.heap[k]? = some (.cells c T fr)) (hT : S T = true) (hb : base ≤ k) (o : Nat) (v : Value) : ChT S base w (w1.setCell ⟨k, o, none⟩ v) :=
  ⟨h.os, h.tape, h.output, by rw [setCell_sizeT]; exact h.size, fun i hi hs => by
    have e := h.block i hi hs
    refine (bk_other (fun e2 => ?_) o v).trans e
    subst e2
    rcases hs with hs | ⟨c', T', fr', hs, hS⟩
    · omega
    · rw [hk, hs] at e
      have e2 := Option.some.inj e
      injection e2 with _ e3
      rw [e3, hS] at hT
      cases hT⟩
theorem ChT.of_grown {r : Option Nat} (g : w.grownBy w' r) (hr : ∀ k, r = some k → base ≤ k ∧ ∀ c T fr, w.heap[k]? = some (.cells c T fr) → S T = true) : ChT S base w w' :=
  ⟨g.os, g.tape, g.output, g.size, fun i hi hs => g.block i hi (fun e => by
    obtain ⟨h1, h2⟩ := hr i e.symm
    rcases hs with hs | ⟨c, T, fr, hs, hS⟩
    · omega
    · rw [h2 c T fr hs] at hS
      cases hS)⟩
theorem ChT.bk (h : ChT S base w w') {g : Nat} {c : Array Value} {t : TypeId} {fr : Nat × Nat} (hb : w.heap[g]? = some (.cells c t fr)) (hn : S t = false) : w'.heap[g]? = some (.cells c t fr) :=
  (h.block g (Array.getElem?_eq_some_iff.1 hb).1 (Or.inr ⟨_, _, _, hb, hn⟩)).trans hb
theorem ChT.owns (h : ChT S base w w') {b e s n : Nat} {v : Value} {xs : List Value} (o : w.ownsRow b e s v n xs) (hn : S e = false) : w'.ownsRow b e s v n xs := by
  obtain ⟨hl, h2⟩ := o
  refine ⟨hl, ?_⟩
  rcases h2 with h2 | ⟨g', cap, cur, rfl, hg, hh, r⟩
  · exact Or.inl h2
  · exact Or.inr ⟨g', cap, cur, rfl, hg, h.bk hh hn, r⟩
end
/-- Two blocks that hold structs of unlike types are apart. -/
theorem bk_apart {w : World} {g k : Nat} {c c' : Array Value} {T T' : TypeId} {fr fr' : Nat × Nat} (h : w.heap[g]? = some (.cells c T fr)) (h' : w.heap[k]? = some (.cells c' T' fr')) (hn : T ≠ T') : g ≠ k := fun e => by
  subst e
  rw [h] at h'
  have e2 := Option.some.inj h'
  injection e2 with _ e3
  exact hn e3
end Go.Proofs.Ythjakbpcpfmbjaa
