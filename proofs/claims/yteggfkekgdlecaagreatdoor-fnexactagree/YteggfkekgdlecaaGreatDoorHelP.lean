import Derived.Test.YteggfkekgdlecaaGreatDoorParP
import Derived.Test.YteggfkekgdlecaaGreatDoorStrB
namespace Go.Proofs.YteggfkekgdlecaaGreatDoor
open Go.RowKit
set_option linter.unusedVariables false

/-- A hello. -/
structure HE where
  kd : Int
  vr : Int
  rnd : List Int
  vers : List Int
  nms : List ByteArray
  par : PP
def HE.small (h : HE) (n : Nat) : Prop := h.rnd.length ≤ n ∧ h.vers.length ≤ n ∧ h.nms.length ≤ n ∧ h.par.small n
def HE.texts (h : HE) (n : Nat) : Prop := ∀ j, (h.nms.getD j ByteArray.empty).size ≤ n
def HE.total (h : HE) : Int := (h.rnd.length : Int) + (h.vers.length : Int) + ttot h.nms + h.par.total
theorem hesmall_mono {h : HE} {m n : Nat} (hs : h.small m) (hm : m ≤ n) : h.small n := ⟨Nat.le_trans hs.1 hm, Nat.le_trans hs.2.1 hm, Nat.le_trans hs.2.2.1 hm, ppsmall_mono hs.2.2.2 hm⟩
def HERow (w : World) (v : Value) (h : HE) : Prop :=
  ∃ v0 v1 v2 v3 v4 v5, v = .agg #[.int .i64 h.kd, .int .i64 h.vr, v0, v1, v2, .int .i64 h.par.a0, .int .i64 h.par.a1, .int .i64 h.par.a2, .int .i64 h.par.a3, .int .i64 h.par.a4, .int .i64 h.par.a5, .int .i64 h.par.a6, .int .i64 h.par.a7, .int .i64 h.par.a8, .bool h.par.m, v3, v4, v5] ∧ Row w .u8 v0 h.rnd ∧ Row w .i64 v1 h.vers ∧ TRow w v2 h.nms ∧ Row w .u8 v3 h.par.o ∧ Row w .u8 v4 h.par.t ∧ Row w .u8 v5 h.par.f
theorem HERow.below {w w' : World} {v : Value} {h : HE} (k : HERow w v h) (hb : Below w.heap.size w w') : HERow w' v h := by
  obtain ⟨v0, v1, v2, v3, v4, v5, e, h0, h1, h2, h3, h4, h5⟩ := k
  exact ⟨v0, v1, v2, v3, v4, v5, e, h0.below hb, h1.below hb, h2.below hb, h3.below hb, h4.below hb, h5.below hb⟩
/-- The parameters inside. -/
theorem HERow.par {w : World} {v : Value} {h : HE} (k : HERow w v h) : ∃ v0 v1 v2 v3 v4 v5, v = .agg #[.int .i64 h.kd, .int .i64 h.vr, v0, v1, v2, .int .i64 h.par.a0, .int .i64 h.par.a1, .int .i64 h.par.a2, .int .i64 h.par.a3, .int .i64 h.par.a4, .int .i64 h.par.a5, .int .i64 h.par.a6, .int .i64 h.par.a7, .int .i64 h.par.a8, .bool h.par.m, v3, v4, v5] ∧ PPRow w (.agg #[.int .i64 h.par.a0, .int .i64 h.par.a1, .int .i64 h.par.a2, .int .i64 h.par.a3, .int .i64 h.par.a4, .int .i64 h.par.a5, .int .i64 h.par.a6, .int .i64 h.par.a7, .int .i64 h.par.a8, .bool h.par.m, v3, v4, v5]) h.par := by
  obtain ⟨v0, v1, v2, v3, v4, v5, e, h0, h1, h2, h3, h4, h5⟩ := k
  exact ⟨v0, v1, v2, v3, v4, v5, e, v3, v4, v5, rfl, h3, h4, h5⟩
/-- A hello of one's own: six rows, no two of them in one block. -/
structure HEOwn (w : World) (base : Nat) (v0 v1 v2 v3 v4 v5 : Value) (h : HE) : Prop where
  o0 : w.ownsRow base 5 1 v0 h.rnd.length (h.rnd.map (Value.int .u8))
  o1 : w.ownsRow base 3 1 v1 h.vers.length (h.vers.map (Value.int .i64))
  o2 : w.ownsRow base 9 1 v2 h.nms.length (h.nms.map Value.string)
  o3 : w.ownsRow base 5 1 v3 h.par.o.length (h.par.o.map (Value.int .u8))
  o4 : w.ownsRow base 5 1 v4 h.par.t.length (h.par.t.map (Value.int .u8))
  o5 : w.ownsRow base 5 1 v5 h.par.f.length (h.par.f.map (Value.int .u8))
  ap : List.Pairwise Apart [v0, v1, v2, v3, v4, v5]
def HEOwns (w : World) (base : Nat) (v : Value) (h : HE) : Prop := ∃ v0 v1 v2 v3 v4 v5, v = .agg #[.int .i64 h.kd, .int .i64 h.vr, v0, v1, v2, .int .i64 h.par.a0, .int .i64 h.par.a1, .int .i64 h.par.a2, .int .i64 h.par.a3, .int .i64 h.par.a4, .int .i64 h.par.a5, .int .i64 h.par.a6, .int .i64 h.par.a7, .int .i64 h.par.a8, .bool h.par.m, v3, v4, v5] ∧ HEOwn w base v0 v1 v2 v3 v4 v5 h
theorem HEOwns.row {w : World} {base : Nat} {v : Value} {h : HE} (k : HEOwns w base v h) : HERow w v h := by
  obtain ⟨v0, v1, v2, v3, v4, v5, e, k⟩ := k
  exact ⟨v0, v1, v2, v3, v4, v5, e, row_of_owns k.o0, row_of_owns k.o1, trow_of_owns k.o2, row_of_owns k.o3, row_of_owns k.o4, row_of_owns k.o5⟩
theorem HEOwns.below {w w' : World} {base : Nat} {v : Value} {h : HE} (k : HEOwns w base v h) (hb : Below w.heap.size w w') : HEOwns w' base v h := by
  obtain ⟨v0, v1, v2, v3, v4, v5, e, k⟩ := k
  exact ⟨v0, v1, v2, v3, v4, v5, e, owns_below k.o0 hb, owns_below k.o1 hb, owns_below k.o2 hb, owns_below k.o3 hb, owns_below k.o4 hb, owns_below k.o5 hb, k.ap⟩
theorem HEOwns.mono {w : World} {base base' : Nat} {v : Value} {h : HE} (k : HEOwns w base v h) (hb : base' ≤ base) : HEOwns w base' v h := by
  obtain ⟨v0, v1, v2, v3, v4, v5, e, k⟩ := k
  exact ⟨v0, v1, v2, v3, v4, v5, e, owns_mono k.o0 hb, owns_mono k.o1 hb, owns_mono k.o2 hb, owns_mono k.o3 hb, owns_mono k.o4 hb, owns_mono k.o5 hb, k.ap⟩
/-- The blocks of a hello. -/
def HEBlk (v : Value) (g : Nat) : Prop := ∃ cs, v = .agg cs ∧ ∃ i u, (i = 2 ∨ i = 3 ∨ i = 4 ∨ i = 15 ∨ i = 16 ∨ i = 17) ∧ cs[i]? = some u ∧ Value.ownBlock u = some g
theorem HEOwns.blk {w : World} {base : Nat} {v : Value} {h : HE} (k : HEOwns w base v h) (g : Nat) (hg : HEBlk v g) : base ≤ g ∧ g < w.heap.size := by
  obtain ⟨v0, v1, v2, v3, v4, v5, e, q⟩ := k
  obtain ⟨cs, e', i, u, hi, hu, hb⟩ := hg
  rw [e] at e'
  cases e'
  rcases hi with rfl | rfl | rfl | rfl | rfl | rfl <;> simp at hu <;> subst hu
  · exact q.o0.lt g hb
  · exact q.o1.lt g hb
  · exact q.o2.lt g hb
  · exact q.o3.lt g hb
  · exact q.o4.lt g hb
  · exact q.o5.lt g hb
theorem Chg.heowns2 {S : Nat → Prop} {w w' : World} {base : Nat} {v : Value} {h : HE} (c : Chg S w w') (ho : HEOwns w base v h) (hs : ∀ g, HEBlk v g → ¬ S g) : HEOwns w' base v h := by
  obtain ⟨v0, v1, v2, v3, v4, v5, rfl, q⟩ := ho
  exact ⟨v0, v1, v2, v3, v4, v5, rfl, c.owns q.o0 (fun g hg => hs g ⟨_, rfl, 2, _, by simp, rfl, hg⟩), c.owns q.o1 (fun g hg => hs g ⟨_, rfl, 3, _, by simp, rfl, hg⟩), c.owns q.o2 (fun g hg => hs g ⟨_, rfl, 4, _, by simp, rfl, hg⟩), c.owns q.o3 (fun g hg => hs g ⟨_, rfl, 15, _, by simp, rfl, hg⟩), c.owns q.o4 (fun g hg => hs g ⟨_, rfl, 16, _, by simp, rfl, hg⟩), c.owns q.o5 (fun g hg => hs g ⟨_, rfl, 17, _, by simp, rfl, hg⟩), q.ap⟩
end Go.Proofs.YteggfkekgdlecaaGreatDoor
