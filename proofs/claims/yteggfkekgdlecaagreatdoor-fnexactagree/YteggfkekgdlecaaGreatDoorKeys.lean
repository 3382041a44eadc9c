import Derived.Test.YteggfkekgdlecaaGreatDoorVals
namespace Go.Proofs.YteggfkekgdlecaaGreatDoor
open Go.RowKit
set_option linter.unusedVariables false

/-- The four lists of bytes of keys. -/
structure K4 where
  a : List Int
  b : List Int
  c : List Int
  d : List Int
def K4.small (k : K4) (n : Nat) : Prop := k.a.length ≤ n ∧ k.b.length ≤ n ∧ k.c.length ≤ n ∧ k.d.length ≤ n
def K4.bytes (k : K4) : Prop := Bytes k.a ∧ Bytes k.b ∧ Bytes k.c ∧ Bytes k.d
def KRow (w : World) (v : Value) (k : K4) : Prop :=
  ∃ v0 v1 v2 v3, v = .agg #[v0, v1, v2, v3] ∧ Row w .u8 v0 k.a ∧ Row w .u8 v1 k.b ∧ Row w .u8 v2 k.c ∧ Row w .u8 v3 k.d
theorem KRow.below {w w' : World} {v : Value} {k : K4} (h : KRow w v k) (hb : Below w.heap.size w w') : KRow w' v k := by
  obtain ⟨v0, v1, v2, v3, e, h0, h1, h2, h3⟩ := h
  exact ⟨v0, v1, v2, v3, e, h0.below hb, h1.below hb, h2.below hb, h3.below hb⟩
/-- No block in common. -/
def Apart (u v : Value) : Prop := ∀ g, u.ownBlock = some g → v.ownBlock ≠ some g
theorem Apart.symm {u v : Value} (h : Apart u v) : Apart v u := fun g h1 h2 => h g h2 h1
/-- The call's own keys: four rows of its own, no two of them in one block. -/
structure KOwn (w : World) (base : Nat) (v0 v1 v2 v3 : Value) (k : K4) : Prop where
  o0 : w.ownsRow base 5 1 v0 k.a.length (k.a.map (Value.int .u8))
  o1 : w.ownsRow base 5 1 v1 k.b.length (k.b.map (Value.int .u8))
  o2 : w.ownsRow base 5 1 v2 k.c.length (k.c.map (Value.int .u8))
  o3 : w.ownsRow base 5 1 v3 k.d.length (k.d.map (Value.int .u8))
  a01 : Apart v0 v1
  a02 : Apart v0 v2
  a03 : Apart v0 v3
  a12 : Apart v1 v2
  a13 : Apart v1 v3
  a23 : Apart v2 v3
def KOwns (w : World) (base : Nat) (v : Value) (k : K4) : Prop := ∃ v0 v1 v2 v3, v = .agg #[v0, v1, v2, v3] ∧ KOwn w base v0 v1 v2 v3 k
theorem KOwns.row {w : World} {base : Nat} {v : Value} {k : K4} (h : KOwns w base v k) : KRow w v k := by
  obtain ⟨v0, v1, v2, v3, e, h⟩ := h
  exact ⟨v0, v1, v2, v3, e, row_of_owns h.o0, row_of_owns h.o1, row_of_owns h.o2, row_of_owns h.o3⟩
theorem KOwn.below {w w' : World} {base : Nat} {v0 v1 v2 v3 : Value} {k : K4} (h : KOwn w base v0 v1 v2 v3 k) (hb : Below w.heap.size w w') : KOwn w' base v0 v1 v2 v3 k :=
  ⟨owns_below h.o0 hb, owns_below h.o1 hb, owns_below h.o2 hb, owns_below h.o3 hb, h.a01, h.a02, h.a03, h.a12, h.a13, h.a23⟩
theorem KOwns.below {w w' : World} {base : Nat} {v : Value} {k : K4} (h : KOwns w base v k) (hb : Below w.heap.size w w') : KOwns w' base v k := by
  obtain ⟨v0, v1, v2, v3, e, h⟩ := h
  exact ⟨v0, v1, v2, v3, e, h.below hb⟩
theorem KOwns.mono {w : World} {base base' : Nat} {v : Value} {k : K4} (h : KOwns w base v k) (hb : base' ≤ base) : KOwns w base' v k := by
  obtain ⟨v0, v1, v2, v3, e, h⟩ := h
  exact ⟨v0, v1, v2, v3, e, owns_mono h.o0 hb, owns_mono h.o1 hb, owns_mono h.o2 hb, owns_mono h.o3 hb, h.a01, h.a02, h.a03, h.a12, h.a13, h.a23⟩
/-- What was made later lies apart. -/
theorem apart_later {w1 w2 : World} {base1 base2 n1 n2 : Nat} {u v : Value} {xs ys : List Value} (h1 : w1.ownsRow base1 5 1 u n1 xs) (h2 : w2.ownsRow base2 5 1 v n2 ys) (hb : w1.heap.size ≤ base2) : Apart u v := by
  intro g e1 e2
  have a := h1.lt g e1
  have b := h2.lt g e2
  omega
/-- Of the old blocks only those of S may have turned. -/
structure Chg (S : Nat → Prop) (w w' : World) : Prop where
  os : w'.os = w.os
  tape : w'.tape = w.tape
  output : w'.output = w.output
  size : w.heap.size ≤ w'.heap.size
  block : ∀ k, k < w.heap.size → ¬ S k → w'.heap[k]? = w.heap[k]?
theorem Chg.trans {S : Nat → Prop} {a b c : World} (h : Chg S a b) (k : Chg S b c) : Chg S a c :=
  ⟨k.os.trans h.os, k.tape.trans h.tape, k.output.trans h.output, Nat.le_trans h.size k.size, fun i hi hs => (k.block i (Nat.lt_of_lt_of_le hi h.size) hs).trans (h.block i hi hs)⟩
theorem Chg.of_below {S : Nat → Prop} {w w' : World} (h : Below w.heap.size w w') : Chg S w w' := ⟨h.os, h.tape, h.output, h.size, fun k hk _ => h.block k hk⟩
theorem Chg.of_only {S : Nat → Prop} {g : Option Nat} {w w' : World} (h : Only g w w') (hs : ∀ k, g = some k → S k) : Chg S w w' :=
  ⟨h.os, h.tape, h.output, Nat.le_of_eq h.size.symm, fun k hk hn => h.block k (fun e => hn (hs k e.symm))⟩
theorem Chg.below {S : Nat → Prop} {w w' : World} (h : Chg S w w') {B : Nat} (hB : B ≤ w.heap.size) (hs : ∀ k, S k → B ≤ k) : Below B w w' :=
  ⟨h.os, h.tape, h.output, h.size, fun k hk => h.block k (by omega) (fun e => by have := hs k e; omega)⟩
theorem Chg.owns {S : Nat → Prop} {w w' : World} {base e n : Nat} {v : Value} {xs : List Value} (h : Chg S w w') (ho : w.ownsRow base e 1 v n xs) (hs : ∀ k, v.ownBlock = some k → ¬ S k) : w'.ownsRow base e 1 v n xs := by
  obtain ⟨hl, h2⟩ := ho
  refine ⟨hl, ?_⟩
  rcases h2 with h2 | ⟨g, cap, cur, rfl, hg, hh, r⟩
  · exact Or.inl h2
  · exact Or.inr ⟨g, cap, cur, rfl, hg, (h.block g (Array.getElem?_eq_some_iff.1 hh).1 (hs g rfl)).trans hh, r⟩
theorem Chg.kowns {S : Nat → Prop} {w w' : World} {base : Nat} {v : Value} {k : K4} (h : Chg S w w') (ho : KOwns w base v k) (hs : ∀ g, base ≤ g → g < w.heap.size → ¬ S g) : KOwns w' base v k := by
  obtain ⟨v0, v1, v2, v3, e, q⟩ := ho
  exact ⟨v0, v1, v2, v3, e, h.owns q.o0 (fun g hg => hs g (q.o0.lt g hg).1 (q.o0.lt g hg).2), h.owns q.o1 (fun g hg => hs g (q.o1.lt g hg).1 (q.o1.lt g hg).2), h.owns q.o2 (fun g hg => hs g (q.o2.lt g hg).1 (q.o2.lt g hg).2), h.owns q.o3 (fun g hg => hs g (q.o3.lt g hg).1 (q.o3.lt g hg).2), q.a01, q.a02, q.a03, q.a12, q.a13, q.a23⟩
/-- The blocks of keys. -/
def KBlk (v : Value) (g : Nat) : Prop := ∃ v0 v1 v2 v3, v = .agg #[v0, v1, v2, v3] ∧ (v0.ownBlock = some g ∨ v1.ownBlock = some g ∨ v2.ownBlock = some g ∨ v3.ownBlock = some g)
theorem KOwns.blk {w : World} {base : Nat} {v : Value} {k : K4} (h : KOwns w base v k) (g : Nat) (hg : KBlk v g) : base ≤ g ∧ g < w.heap.size := by
  obtain ⟨v0, v1, v2, v3, e, q⟩ := h
  obtain ⟨u0, u1, u2, u3, e', hb⟩ := hg
  rw [e] at e'
  cases e'
  rcases hb with hb | hb | hb | hb
  · exact q.o0.lt g hb
  · exact q.o1.lt g hb
  · exact q.o2.lt g hb
  · exact q.o3.lt g hb
/-- The keys with k, k + 1, .. in all their places. -/
def K4.marked (k : K4) (q : Int) : K4 :=
  ⟨marks q k.a.length, marks (q + (k.a.length : Int)) k.b.length, marks (q + (k.a.length : Int) + (k.b.length : Int)) k.c.length, marks (q + (k.a.length : Int) + (k.b.length : Int) + (k.c.length : Int)) k.d.length⟩
def K4.total (k : K4) : Int := (k.a.length : Int) + (k.b.length : Int) + (k.c.length : Int) + (k.d.length : Int)
end Go.Proofs.YteggfkekgdlecaaGreatDoor
