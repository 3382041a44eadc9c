import Derived.Test.YthjakbpcpfmbjaaFlat
import Derived.Test.YthjakbpcpfmbjaaMarkBytes
import Derived.Test.YthjakbpcpfmbjaaSzBytes
namespace Go.Proofs.Ythjakbpcpfmbjaa
open Go.RowKit
set_option linter.unusedVariables false

/-- The cells of structs of which one cell is a list of bytes (U says which value stands there). -/
def zl {α : Type} [Inhabited α] (c : α → Value → List Value) (L : List α) (U : Nat → Value) : List (List Value) := (List.range L.length).map fun j => c (L.getD j default) (U j)
theorem zl_length {α : Type} [Inhabited α] (c : α → Value → List Value) (L : List α) (U : Nat → Value) : (zl c L U).length = L.length := by simp [zl]
theorem zl_at {α : Type} [Inhabited α] (c : α → Value → List Value) (L : List α) (U : Nat → Value) (j : Nat) (h : j < L.length) : (zl c L U).getD j [] = c (L.getD j default) (U j) := by simp [zl, List.getD, h]
/-- A list of such structs, as a slice holds it. -/
def BRow {α : Type} [Inhabited α] (K : Nat) (c : α → Value → List Value) (d : α → List Int) (w : World) (v : Value) (L : List α) : Prop :=
  ∃ U : Nat → Value, GRow K w v (zl c L U) ∧ ∀ j, j < L.length → Row w .u8 (U j) (d (L.getD j default))
theorem BRow.form {α : Type} [Inhabited α] {K : Nat} {c : α → Value → List Value} {d : α → List Int} {w : World} {v : Value} {L : List α} (h : BRow K c d w v L) : ∃ ao cap, v = .slice ao L.length cap := by
  obtain ⟨U, g, _⟩ := h
  have := g.form
  rwa [zl_length] at this
theorem BRow.below {α : Type} [Inhabited α] {K : Nat} {c : α → Value → List Value} {d : α → List Int} {w w' : World} {v : Value} {L : List α} (h : BRow K c d w v L) (hb : Below w.heap.size w w') : BRow K c d w' v L := by
  obtain ⟨U, g, r⟩ := h
  exact ⟨U, g.below hb, fun j hj => (r j hj).below hb⟩
theorem BRow.at' {α : Type} [Inhabited α] {K : Nat} {c : α → Value → List Value} {d : α → List Int} {w : World} {v : Value} {L : List α} (h : BRow K c d w v L) (h0 : 0 < L.length) :
    ∃ b off cap, v = .slice (some ⟨b, off, none⟩) L.length cap ∧ b < w.heap.size ∧ ∃ U : Nat → Value, (∀ j, j < L.length → ∀ f, f < K → w.cell? ⟨b, off + (j * K + f), none⟩ = (c (L.getD j default) (U j))[f]?) ∧ ∀ j, j < L.length → Row w .u8 (U j) (d (L.getD j default)) := by
  obtain ⟨U, g, r⟩ := h
  obtain ⟨b, off, cap, rfl, hb, hc⟩ := g.at' (by rw [zl_length]; exact h0)
  rw [zl_length] at hc ⊢
  exact ⟨b, off, cap, rfl, hb, U, fun j hj f hf => by rw [← zl_at c L U j hj]; exact hc j hj f hf, r⟩
/-- The same, of one's own: no two lists of bytes share a block. -/
def BOwns {α : Type} [Inhabited α] (T : TypeId) (K : Nat) (c : α → Value → List Value) (d : α → List Int) (w : World) (base : Nat) (v : Value) (L : List α) : Prop :=
  ∃ U : Nat → Value, GOwns T K w base v (zl c L U) ∧ (∀ j, j < L.length → w.ownsRow base 5 1 (U j) (d (L.getD j default)).length ((d (L.getD j default)).map (Value.int .u8))) ∧
    (∀ (i j : Nat), i < j → j < L.length → ∀ k, (U j).ownBlock = some k → some k ≠ (U i).ownBlock)
theorem BOwns.row {α : Type} [Inhabited α] {T : TypeId} {K : Nat} {c : α → Value → List Value} {d : α → List Int} {w : World} {base : Nat} {v : Value} {L : List α} (h : BOwns T K c d w base v L) : BRow K c d w v L := by
  obtain ⟨U, g, r, _⟩ := h
  exact ⟨U, g.row, fun j hj => row_of_owns (r j hj)⟩
theorem BOwns.below {α : Type} [Inhabited α] {T : TypeId} {K : Nat} {c : α → Value → List Value} {d : α → List Int} {w w' : World} {base : Nat} {v : Value} {L : List α} (h : BOwns T K c d w base v L) (hb : Below w.heap.size w w') : BOwns T K c d w' base v L := by
  obtain ⟨U, g, r, a⟩ := h
  exact ⟨U, g.below hb, fun j hj => owns_below (r j hj) hb, a⟩
theorem BOwns.mono {α : Type} [Inhabited α] {T : TypeId} {K : Nat} {c : α → Value → List Value} {d : α → List Int} {w : World} {base base' : Nat} {v : Value} {L : List α} (h : BOwns T K c d w base v L) (hb : base' ≤ base) : BOwns T K c d w base' v L := by
  obtain ⟨U, g, r, a⟩ := h
  exact ⟨U, g.mono hb, fun j hj => owns_mono (r j hj) hb, a⟩
theorem owns_highB {w w' : World} {B base e s n : Nat} {v : Value} {xs : List Value} (hh : ∀ k, B ≤ k → k < w.heap.size → w'.heap[k]? = w.heap[k]?) (ho : w.ownsRow base e s v n xs) (hb : B ≤ base) : w'.ownsRow base e s v n xs := by
  obtain ⟨hl, h2⟩ := ho
  refine ⟨hl, ?_⟩
  rcases h2 with h2 | ⟨g, cap, cur, rfl, hg, hp, r⟩
  · exact Or.inl h2
  · exact Or.inr ⟨g, cap, cur, rfl, hg, (hh g (by omega) (Array.getElem?_eq_some_iff.1 hp).1).trans hp, r⟩
theorem BOwns.high {α : Type} [Inhabited α] {T : TypeId} {K : Nat} {c : α → Value → List Value} {d : α → List Int} {w w' : World} {B base : Nat} {v : Value} {L : List α} (hh : ∀ k, B ≤ k → k < w.heap.size → w'.heap[k]? = w.heap[k]?) (h : BOwns T K c d w base v L) (hb : B ≤ base) : BOwns T K c d w' base v L := by
  obtain ⟨U, ⟨zs, g, hz⟩, r, a⟩ := h
  exact ⟨U, ⟨zs, owns_highB hh g hb, hz⟩, fun j hj => owns_highB hh (r j hj) hb, a⟩
/-- The same, and all its blocks lie below B. -/
def BLo {α : Type} [Inhabited α] (T : TypeId) (K : Nat) (c : α → Value → List Value) (d : α → List Int) (w : World) (base : Nat) (v : Value) (L : List α) (B : Nat) : Prop :=
  ∃ U : Nat → Value, GOwns T K w base v (zl c L U) ∧ (∀ j, j < L.length → w.ownsRow base 5 1 (U j) (d (L.getD j default)).length ((d (L.getD j default)).map (Value.int .u8))) ∧
    (∀ (i j : Nat), i < j → j < L.length → ∀ k, (U j).ownBlock = some k → some k ≠ (U i).ownBlock) ∧ (∀ k, v.ownBlock = some k → k < B) ∧ ∀ j, j < L.length → ∀ k, (U j).ownBlock = some k → k < B
theorem BOwns.lo {α : Type} [Inhabited α] {T : TypeId} {K : Nat} {c : α → Value → List Value} {d : α → List Int} {w : World} {base : Nat} {v : Value} {L : List α} (h : BOwns T K c d w base v L) : BLo T K c d w base v L w.heap.size := by
  obtain ⟨U, g, r, a⟩ := h
  have g' := g
  obtain ⟨zs, g2, _⟩ := g'
  exact ⟨U, g, r, a, fun k hk => (g2.lt k hk).2, fun j hj k hk => ((r j hj).lt k hk).2⟩
theorem BLo.owns {α : Type} [Inhabited α] {T : TypeId} {K : Nat} {c : α → Value → List Value} {d : α → List Int} {w : World} {base B : Nat} {v : Value} {L : List α} (h : BLo T K c d w base v L B) : BOwns T K c d w base v L := by
  obtain ⟨U, g, r, a, _⟩ := h
  exact ⟨U, g, r, a⟩
theorem BLo.below {α : Type} [Inhabited α] {T : TypeId} {K : Nat} {c : α → Value → List Value} {d : α → List Int} {w w' : World} {base B : Nat} {v : Value} {L : List α} (h : BLo T K c d w base v L B) (hb : Below w.heap.size w w') : BLo T K c d w' base v L B := by
  obtain ⟨U, g, r, a, x, y⟩ := h
  exact ⟨U, g.below hb, fun j hj => owns_below (r j hj) hb, a, x, y⟩
theorem owns_typeB {w : World} {base e n s : Nat} {v : Value} {xs : List Value} (h : w.ownsRow base e s v n xs) (k : Nat) (hk : v.ownBlock = some k) : ∃ cur, w.heap[k]? = some (.cells cur e (0, 0)) := by
  rcases h.2 with ⟨rfl, _⟩ | ⟨g, cap, cur, rfl, _, hg, _⟩
  · cases hk
  · have e : g = k := by simpa [Value.ownBlock] using hk
    subst e
    exact ⟨cur, hg⟩
theorem types_apartB {w : World} {T b1 b2 n1 n2 s1 : Nat} {v1 v2 : Value} {x1 x2 : List Value} (hT : T ≠ 5) (h1 : w.ownsRow b1 T s1 v1 n1 x1) (h2 : w.ownsRow b2 5 1 v2 n2 x2) (k : Nat) (hk : v1.ownBlock = some k) : some k ≠ v2.ownBlock := by
  intro e
  obtain ⟨c1, e1⟩ := owns_typeB h1 k hk
  obtain ⟨c2, e2⟩ := owns_typeB h2 k e.symm
  rw [e1] at e2
  have := Option.some.inj e2
  injection this with _ ht
  exact hT ht
theorem Only.high {g : Option Nat} {w w' : World} (h : Only g w w') (B : Nat) (hg : ∀ k, g = some k → k < B) : ∀ k, B ≤ k → k < w.heap.size → w'.heap[k]? = w.heap[k]? :=
  fun k hk _ => h.block k (fun e => by have := hg k e.symm; omega)
theorem owns_set8 {wx : World} {base g n i : Nat} {u v : Value} {xs : List Value} (ho : wx.ownsRow base 5 1 v n xs) (hb : g < base) : (wx.setCell ⟨g, i, none⟩ u).ownsRow base 5 1 v n xs :=
  (Only.setCell (w := wx) ⟨g, i, none⟩ u).owns ho (fun k hk e => by have := (ho.lt k hk).1; have := Option.some.inj e; simp only at this; omega)
/-- How wide the first k of them are, w cells and the bytes each. -/
def sumB {α : Type} [Inhabited α] (m : Nat) (d : α → List Int) (L : List α) : Nat → Nat
  | 0 => 0
  | k + 1 => sumB m d L k + (m + (d (L.getD k default)).length)
theorem sumB_mono {α : Type} [Inhabited α] (m : Nat) (d : α → List Int) (L : List α) {a b : Nat} (h : a ≤ b) : sumB m d L a ≤ sumB m d L b := by
  induction b with
  | zero => have : a = 0 := by omega
            subst this; exact Nat.le_refl _
  | succ b ih =>
    by_cases e : a = b + 1
    · subst e; exact Nat.le_refl _
    · have := ih (by omega)
      simp only [sumB]; omega
theorem sumB_ge {α : Type} [Inhabited α] (m : Nat) (d : α → List Int) (L : List α) (k : Nat) : m * k ≤ sumB m d L k := by
  induction k with
  | zero => simp [sumB]
  | succ k ih => simp only [sumB, Nat.mul_succ]; omega
end Go.Proofs.Ythjakbpcpfmbjaa
