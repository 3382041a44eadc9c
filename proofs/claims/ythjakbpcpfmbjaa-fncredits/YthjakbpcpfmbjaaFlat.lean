import Derived.Test.YthjakbpcpfmbjaaToBytes
import Derived.Test.YthjakbpcpfmbjaaEqBytes
import Derived.Test.YthjakbpcpfmbjaaBlocks
import Derived.Deep.RegionWith
import Derived.Deep.CutRange
import Derived.Deep.LoopGhost
namespace Go.Proofs.Ythjakbpcpfmbjaa
open Go.RowKit
set_option linter.unusedVariables false

/-- A list of flat structs of K cells each, as a slice holds it. -/
def GRow (K : Nat) (w : World) (v : Value) (L : List (List Value)) : Prop :=
  (L = [] ∧ ∃ ao cap, v = .slice ao 0 cap) ∨
  (∃ b off cap, v = .slice (some ⟨b, off, none⟩) L.length cap ∧ b < w.heap.size ∧ ∀ j, j < L.length → ∀ f, f < K → w.cell? ⟨b, off + (j * K + f), none⟩ = (L.getD j [])[f]?)
theorem GRow.form {K : Nat} {w : World} {v : Value} {L : List (List Value)} (h : GRow K w v L) : ∃ ao cap, v = .slice ao L.length cap := by
  rcases h with ⟨rfl, ao, cap, rfl⟩ | ⟨b, off, cap, rfl, _⟩
  · exact ⟨ao, cap, rfl⟩
  · exact ⟨_, _, rfl⟩
theorem GRow.below {K : Nat} {w w' : World} {v : Value} {L : List (List Value)} (h : GRow K w v L) (hb : Below w.heap.size w w') : GRow K w' v L := by
  rcases h with h | ⟨b, off, cap, rfl, hl, hc⟩
  · exact Or.inl h
  · exact Or.inr ⟨b, off, cap, rfl, by have := hb.size; omega, fun j hj f hf => (hb.cell (p := ⟨b, off + (j * K + f), none⟩) hl).trans (hc j hj f hf)⟩
theorem GRow.at' {K : Nat} {w : World} {v : Value} {L : List (List Value)} (h : GRow K w v L) (h0 : 0 < L.length) : ∃ b off cap, v = .slice (some ⟨b, off, none⟩) L.length cap ∧ b < w.heap.size ∧ ∀ j, j < L.length → ∀ f, f < K → w.cell? ⟨b, off + (j * K + f), none⟩ = (L.getD j [])[f]? := by
  rcases h with ⟨rfl, _⟩ | h
  · simp at h0
  · exact h
/-- A list of flat structs of one's own. -/
def GOwns (T : TypeId) (K : Nat) (w : World) (base : Nat) (v : Value) (L : List (List Value)) : Prop :=
  ∃ zs : List Value, w.ownsRow base T K v L.length zs ∧ ∀ j, j < L.length → ∀ f, f < K → zs[j * K + f]? = (L.getD j [])[f]?
theorem jK_lt {j n K f : Nat} (hj : j < n) (hf : f < K) : j * K + f < n * K := by
  have h1 : (j + 1) * K ≤ n * K := Nat.mul_le_mul_right K hj
  rw [Nat.add_mul, Nat.one_mul] at h1
  omega
theorem GOwns.row {T : TypeId} {K : Nat} {w : World} {base : Nat} {v : Value} {L : List (List Value)} (h : GOwns T K w base v L) : GRow K w v L := by
  obtain ⟨zs, ho, hz⟩ := h
  by_cases h0 : L.length = 0
  · have hR : L = [] := List.eq_nil_of_length_eq_zero h0
    rcases ho.2 with ⟨rfl, _⟩ | ⟨g, cap, cur, rfl, _⟩
    · exact Or.inl ⟨hR, _, _, rfl⟩
    · exact Or.inl ⟨hR, _, _, by rw [h0]⟩
  · have ho' := ho
    rcases ho.2 with ⟨_, h1⟩ | ⟨g, cap, cur, rfl, hb, hg, _⟩
    · omega
    · refine Or.inr ⟨g, 0, cap, rfl, (Array.getElem?_eq_some_iff.1 hg).1, fun j hj f hf => ?_⟩
      have e0 := ho'.cellAt (j * K + f) (jK_lt hj hf)
      rw [Nat.zero_add]
      exact e0.trans (hz j hj f hf)
theorem GOwns.below {T : TypeId} {K : Nat} {w w' : World} {base : Nat} {v : Value} {L : List (List Value)} (h : GOwns T K w base v L) (hb : Below w.heap.size w w') : GOwns T K w' base v L := by
  obtain ⟨zs, ho, hz⟩ := h
  exact ⟨zs, owns_below ho hb, hz⟩
theorem GOwns.mono {T : TypeId} {K : Nat} {w : World} {base base' : Nat} {v : Value} {L : List (List Value)} (h : GOwns T K w base v L) (hb : base' ≤ base) : GOwns T K w base' v L := by
  obtain ⟨zs, ho, hz⟩ := h
  exact ⟨zs, owns_mono ho hb, hz⟩
theorem GOwns.only {T : TypeId} {K : Nat} {w w' : World} {base : Nat} {g : Option Nat} {v : Value} {L : List (List Value)} (ho : Only g w w') (h : GOwns T K w base v L) (ha : ∀ k, v.ownBlock = some k → some k ≠ g) : GOwns T K w' base v L := by
  obtain ⟨zs, hw, hz⟩ := h
  exact ⟨zs, ho.owns hw ha, hz⟩
theorem GOwns.apart {T T' : TypeId} {K K' : Nat} {w1 w2 : World} {b1 b2 : Nat} {v1 v2 : Value} {L1 L2 : List (List Value)} (h1 : GOwns T K w1 b1 v1 L1) (h2 : GOwns T' K' w2 b2 v2 L2) (hs : w1.heap.size ≤ b2) : ∀ k, v2.ownBlock = some k → some k ≠ v1.ownBlock := by
  obtain ⟨z1, o1, _⟩ := h1
  obtain ⟨z2, o2, _⟩ := h2
  intro k hk hk1
  replace hk1 := hk1.symm
  have := (o1.lt k hk1).2
  have := (o2.lt k hk).1
  omega
theorem map_at {α : Type} (g : α → List Value) (L : List α) (d : α) (j : Nat) (h : j < L.length) : (L.map g).getD j [] = g (L.getD j d) := by
  simp [List.getD, h]
end Go.Proofs.Ythjakbpcpfmbjaa
