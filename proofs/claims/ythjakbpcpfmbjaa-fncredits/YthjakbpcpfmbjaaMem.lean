import Derived.Test.YthjakbpcpfmbjaaChecked
import Derived.WalkKit
import Derived.ProofKit
import Derived.Deep.QuietTactic
import Derived.BigQuiet
import Derived.WalkSmall
namespace Go.Proofs.Ythjakbpcpfmbjaa
open Go.RowKit
set_option linter.unusedVariables false

/-- The slice value v reads as the numbers xs (of kind k). -/
def Row (w : World) (k : IntKind) (v : Value) (xs : List Int) : Prop :=
  (xs = [] ∧ ∃ ao cap, v = .slice ao 0 cap) ∨
  (∃ b off cap, v = .slice (some ⟨b, off, none⟩) xs.length cap ∧ b < w.heap.size ∧ (xs.length ≤ cap ∧ cap ≤ maxLen) ∧ ∀ j, j < xs.length → w.cell? ⟨b, off + j, none⟩ = some (.int k (xs.getD j 0)))

theorem Row.form {w : World} {k : IntKind} {v : Value} {xs : List Int} (h : Row w k v xs) : ∃ ao cap, v = .slice ao xs.length cap := by
  rcases h with ⟨rfl, ao, cap, rfl⟩ | ⟨b, off, cap, rfl, _⟩
  · exact ⟨ao, cap, rfl⟩
  · exact ⟨_, cap, rfl⟩

theorem Row.full {w : World} {k : IntKind} {v : Value} {xs : List Int} (h : Row w k v xs) (hn : 0 < xs.length) :
    ∃ b off cap, v = .slice (some ⟨b, off, none⟩) xs.length cap ∧ b < w.heap.size ∧ (xs.length ≤ cap ∧ cap ≤ maxLen) ∧ ∀ j, j < xs.length → w.cell? ⟨b, off + j, none⟩ = some (.int k (xs.getD j 0)) := by
  rcases h with ⟨rfl, _⟩ | h
  · simp at hn
  · exact h

theorem Row.at {w : World} {k : IntKind} {v : Value} {xs : List Int} (h : Row w k v xs) (hn : 0 < xs.length) :
    ∃ b off cap, v = .slice (some ⟨b, off, none⟩) xs.length cap ∧ b < w.heap.size ∧ ∀ j, j < xs.length → w.cell? ⟨b, off + j, none⟩ = some (.int k (xs.getD j 0)) := by
  obtain ⟨b, off, cap, h1, h2, _, h3⟩ := h.full hn
  exact ⟨b, off, cap, h1, h2, h3⟩

theorem Row.drewN {w : World} {k : IntKind} {v : Value} {xs : List Int} (h : Row w k v xs) (n : Nat) : Row (w.drewN n) k v xs := by
  rcases h with h | ⟨b, off, cap, e, hb, hc⟩
  · exact Or.inl h
  · exact Or.inr ⟨b, off, cap, e, hb, hc⟩

/-- A reading stays where below the block nothing has turned. -/
theorem Row.below {w w' : World} {k : IntKind} {v : Value} {xs : List Int} (h : Row w k v xs) (hb : Below w.heap.size w w') : Row w' k v xs := by
  rcases h with h | ⟨b, off, cap, e, hlt, hcap, hc⟩
  · exact Or.inl h
  · exact Or.inr ⟨b, off, cap, e, Nat.lt_of_lt_of_le hlt hb.size, hcap, fun j hj => (hb.cell (p := ⟨b, off + j, none⟩) hlt).trans (hc j hj)⟩

/-- A piece of a reading. -/
theorem row_cut {w : World} {k : IntKind} {xs : List Int} {b off cap at' n cap' : Nat} (hb : b < w.heap.size) (hc : ∀ j, j < xs.length → w.cell? ⟨b, off + j, none⟩ = some (.int k (xs.getD j 0)))
    (hn : at' + n ≤ xs.length) (hcap : n ≤ cap' ∧ cap' ≤ maxLen) : Row w k (.slice (some ⟨b, off + at', none⟩) n cap') ((xs.drop at').take n) := by
  have hl : ((xs.drop at').take n).length = n := by rw [List.length_take, List.length_drop]; omega
  refine Or.inr ⟨b, off + at', cap', by rw [hl], hb, by rw [hl]; exact hcap, fun j hj => ?_⟩
  rw [hl] at hj
  rw [Nat.add_assoc, hc (at' + j) (by omega)]
  simp [List.getD, hj]

/-- A row of the call's own reads as what it owns. -/
theorem row_of_owns {w : World} {base e n : Nat} {k : IntKind} {v : Value} {xs : List Int} (h : w.ownsRow base e 1 v n (xs.map (Value.int k))) : Row w k v xs := by
  obtain ⟨hl, h2⟩ := id h
  simp at hl
  subst hl
  rcases h2 with ⟨rfl, h0⟩ | ⟨g, cap, cur, rfl, hg, hh, hc1, hc2, r⟩
  · left
    exact ⟨by simpa using h0, none, 0, rfl⟩
  · right
    refine ⟨g, 0, cap, rfl, ?_, ⟨hc1, hc2⟩, fun j hj => ?_⟩
    · exact (Array.getElem?_eq_some_iff.1 hh).1
    · have := h.cellAt j (by simpa using hj)
      rw [Nat.zero_add, this]
      simp [List.getD, hj]

/-- What is owned from 'base' on stays owned where nothing from the heap's old end down has turned. -/
theorem owns_below {w w' : World} {base e size n : Nat} {v : Value} {xs : List Value} (h : w.ownsRow base e size v n xs) (hb : Below w.heap.size w w') : w'.ownsRow base e size v n xs := by
  obtain ⟨hl, h2⟩ := h
  refine ⟨hl, ?_⟩
  rcases h2 with h2 | ⟨g, cap, cur, rfl, hg, hh, r⟩
  · exact Or.inl h2
  · exact Or.inr ⟨g, cap, cur, rfl, hg, (hb.block g (Array.getElem?_eq_some_iff.1 hh).1).trans hh, r⟩

theorem owns_drewN {w : World} {base e size n : Nat} {v : Value} {xs : List Value} (h : w.ownsRow base e size v n xs) (m : Nat) : (w.drewN m).ownsRow base e size v n xs := h

theorem owns_mono {w : World} {base base' e size n : Nat} {v : Value} {xs : List Value} (h : w.ownsRow base e size v n xs) (hb : base' ≤ base) : w.ownsRow base' e size v n xs := by
  obtain ⟨hl, h2⟩ := h
  refine ⟨hl, ?_⟩
  rcases h2 with h2 | ⟨g, cap, cur, rfl, hg, r⟩
  · exact Or.inl h2
  · exact Or.inr ⟨g, cap, cur, rfl, Nat.le_trans hb hg, r⟩

theorem below_refl' (B : Nat) (w : World) (n : Nat) : Below B w (w.drewN n) := below_drewN (Below.refl _ _) n

/-- Of the blocks only g may have turned, and none has come. -/
structure Only (g : Option Nat) (w w' : World) : Prop where
  os : w'.os = w.os
  tape : w'.tape = w.tape
  output : w'.output = w.output
  size : w'.heap.size = w.heap.size
  block : ∀ k, some k ≠ g → w'.heap[k]? = w.heap[k]?
theorem Only.refl (g : Option Nat) (w : World) : Only g w w := ⟨rfl, rfl, rfl, rfl, fun _ _ => rfl⟩
theorem Only.trans {g : Option Nat} {a b c : World} (h : Only g a b) (k : Only g b c) : Only g a c :=
  ⟨k.os.trans h.os, k.tape.trans h.tape, k.output.trans h.output, k.size.trans h.size, fun i hi => (k.block i hi).trans (h.block i hi)⟩
theorem Only.setCell {w : World} (a : Addr) (u : Value) : Only (some a.block) w (w.setCell a u) :=
  ⟨rfl, rfl, rfl, by simp [World.setCell], fun k hk => Below.heap_setCell _ _ _ _ (fun e => hk (by rw [e]))⟩
theorem Only.owns {g : Option Nat} {w w' : World} {base e size n : Nat} {v : Value} {xs : List Value} (h : Only g w w') (ho : w.ownsRow base e size v n xs) (hne : ∀ k, v.ownBlock = some k → some k ≠ g) : w'.ownsRow base e size v n xs := by
  obtain ⟨hl, h2⟩ := ho
  refine ⟨hl, ?_⟩
  rcases h2 with h2 | ⟨g', cap, cur, rfl, hg, hh, r⟩
  · exact Or.inl h2
  · exact Or.inr ⟨g', cap, cur, rfl, hg, (h.block g' (hne g' rfl)).trans hh, r⟩
theorem owns_apart {w1 w2 : World} {base1 base2 e1 e2 n1 n2 : Nat} {v1 v2 : Value} {xs1 xs2 : List Value} (h1 : w1.ownsRow base1 e1 1 v1 n1 xs1) (h2 : w2.ownsRow base2 e2 1 v2 n2 xs2) (hb : w1.heap.size ≤ base2) :
    ∀ k, v2.ownBlock = some k → some k ≠ v1.ownBlock := by
  intro k hk e
  have a := h1.lt k e.symm
  have b := h2.lt k hk
  omega

/-- k, k + 1, .. as bytes. -/
def marks (k : Int) (n : Nat) : List Int := (List.range n).map fun (i : Nat) => (k + (i : Int)) % 256
/-- k, k + 1, .. as numbers. -/
def marksI (k : Int) (n : Nat) : List Int := (List.range n).map fun (i : Nat) => k + (i : Int)
theorem marksI_length (k : Int) (n : Nat) : (marksI k n).length = n := by simp [marksI]
theorem marksI_at (k : Int) (n j : Nat) (h : j < n) : (marksI k n).getD j 0 = k + j := by
  simp [marksI, List.getD, h]
theorem marks_length (k : Int) (n : Nat) : (marks k n).length = n := by simp [marks]
theorem marks_at (k : Int) (n j : Nat) (h : j < n) : (marks k n).getD j 0 = (k + j) % 256 := by
  simp [marks, List.getD, h]

/-- One store of a loop that fills a row of its own, place for place, with f. -/
theorem fill_step {w wr : World} {base e B g n cap k : Nat} {kd : IntKind} {f : Nat → Int} {x : Int} {zs : List Int} (hx : x = f k) (hl : zs.length = n) (hk : k < n) (hm : ∀ j, j < k → zs.getD j 0 = f j)
    (hown : wr.ownsRow base e 1 (.slice (some ⟨g, 0, none⟩) n cap) n (zs.map (Value.int kd))) (hb : Below B w wr) (hg : B ≤ g) :
    ∃ ys : List Int, ys.length = n ∧ (∀ j, j < k + 1 → ys.getD j 0 = f j) ∧ (wr.setCell ⟨g, k, none⟩ (.int kd x)).ownsRow base e 1 (.slice (some ⟨g, 0, none⟩) n cap) n (ys.map (Value.int kd)) ∧
      Below B w (wr.setCell ⟨g, k, none⟩ (.int kd x)) := by
  refine ⟨zs.set k x, by simp [hl], fun j hj => ?_, ?_, hb.setCell hg _⟩
  · by_cases e : j = k
    · subst e
      simp [List.getD, hl, hk, hx]
    · have := hm j (by omega)
      simp only [List.getD, List.getElem?_set] at this ⊢
      rw [if_neg (by omega)]
      exact this
  · have := (hown.stored k (.int kd x)).1
    rwa [← List.map_set] at this

theorem owns_cell {w : World} {base e g n cap k : Nat} {kd : IntKind} {zs : List Int} (hown : w.ownsRow base e 1 (.slice (some ⟨g, 0, none⟩) n cap) n (zs.map (Value.int kd))) (hl : zs.length = n) (hk : k < n) :
    w.cell? ⟨g, k, none⟩ = some (.int kd (zs.getD k 0)) := by
  have := hown.cellAt k (by omega)
  rw [this]
  simp [List.getD, hl, hk]

theorem list_eq_of_getD {xs ys : List Int} {n : Nat} (hx : xs.length = n) (hy : ys.length = n) (h : ∀ j, j < n → xs.getD j 0 = ys.getD j 0) : xs = ys := by
  apply List.ext_getElem (by omega)
  intro i h1 h2
  have := h i (by omega)
  simpa [List.getD, h1, h2] using this

/-- A row of the call's own that is not empty: where it lies. -/
theorem owns_shape {w : World} {base e size n : Nat} {v : Value} {xs : List Value} (h : w.ownsRow base e size v n xs) (hn : 0 < n) : ∃ g cap, v = .slice (some ⟨g, 0, none⟩) n cap ∧ base ≤ g ∧ g < w.heap.size := by
  rcases h.2 with ⟨_, h0⟩ | ⟨g, cap, cur, rfl, hg, hh, _⟩
  · omega
  · exact ⟨g, cap, rfl, hg, (Array.getElem?_eq_some_iff.1 hh).1⟩

/-- A new row of zeros. -/
theorem made_zero {w' : World} {base e g n : Nat} {kd : IntKind} (h : w'.ownsRow base e 1 (.slice (some ⟨g, 0, none⟩) n n) n (madeCells (Value.int kd 0).cells (n * 1)).toList) :
    w'.ownsRow base e 1 (.slice (some ⟨g, 0, none⟩) n n) n ((List.replicate n (0 : Int)).map (Value.int kd)) := by
  have : (madeCells (Value.int kd 0).cells (n * 1)).toList = (List.replicate n (0 : Int)).map (Value.int kd) := by
    rw [show (Value.int kd 0).cells = #[Value.int kd 0] from rfl, toList_madeCells_one]
    simp
  rwa [this] at h
end Go.Proofs.Ythjakbpcpfmbjaa
