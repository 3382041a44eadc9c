import Derived.Test.YtdommkpeilmdnaaDoorFhT
import Derived.Test.YtdommkpeilmdnaaDoorRhB
namespace Go.Proofs.YtdommkpeilmdnaaDoor
open Go.RowKit
set_option linter.unusedVariables false

/-- Amid the draw of a frame. -/
structure DrI (W0 : World) (g fb rb : Nat) (c : Value) (xs : List Int) (p : Int) (w : World) (k a : Int) (d : Value) (ys : List Int) (s : Value) (L : List SSetting) : Prop where
  dt : Dt w g c xs p
  gr : W0.grownBy w (some g)
  fr : fB w fb k a d s
  rs : fB w rb 0 0 (.slice none 0 0) (.slice none 0 0)
  rw : Row w .u8 d ys
  bs : Bytes ys
  ow : GOwns 62 2 w (fb + 1) s (SSetting.L L)
  gl : g < W0.heap.size
  rl : W0.heap.size ≤ rb
  fl : rb < fb
  dl : 0 < ys.length → ∀ j, d.ownBlock = some j → W0.heap.size ≤ j
theorem GOwns.stepU {T : TypeId} {K : Nat} {w w' : World} {base g : Nat} {v : Value} {L : List (List Value)} (h : GOwns T K w base v L) (hg : w.grownBy w' (some g)) (hgl : g < base) : GOwns T K w' base v L := by
  obtain ⟨zs, ho, hz⟩ := h
  refine ⟨zs, ho.kept hg ?_, hz⟩
  cases hv : v.ownBlock with
  | none => exact Or.inl rfl
  | some j =>
    right
    intro e
    have := (ho.lt j hv).1
    have := Option.some.inj e
    omega
theorem DrI.draw {W0 w w' : World} {g fb rb : Nat} {c d s : Value} {xs ys : List Int} {p q k a : Int} {L : List SSetting} (I : DrI W0 g fb rb c xs p w k a d ys s L) (hd : Dt w' g c xs q) (hg : w.grownBy w' (some g)) : DrI W0 g fb rb c xs q w' k a d ys s L := by
  have h1 := I.gl
  have h2 := I.rl
  have h3 := I.fl
  exact ⟨hd, grown_trans I.gr hg, blk_drawnT I.fr hg (by omega), blk_drawnT I.rs hg (by omega), I.dt.row I.rw hg, I.bs, I.ow.stepU hg (by omega), h1, h2, h3, I.dl⟩
theorem DrI.alloc {W0 w : World} {g fb rb : Nat} {c d s : Value} {xs ys : List Int} {p k a : Int} {L : List SSetting} (I : DrI W0 g fb rb c xs p w k a d ys s L) (o : Obj) : DrI W0 g fb rb c xs p (w.alloc o) k a d ys s L :=
  I.draw (I.dt.alloc o) (World.grownBy_alloc w o (some g))
theorem row_fB {w : World} {fb i : Nat} {k a : Int} {d s v x : Value} {ys : List Int} (hf : fB w fb k a d s) (hds : (∃ ao n cp, d = .slice ao n cp) ∧ ∃ ao n cp, s = .slice ao n cp) (h : Row w .u8 v ys) : Row (w.setCell ⟨fb, i, none⟩ x) .u8 v ys := by
  rcases h with h | ⟨b, off, cap, rfl, hb, hcap, hc⟩
  · exact Or.inl h
  · by_cases h0 : 0 < ys.length
    · have hne : b ≠ fb := by
        intro e
        subst e
        have h1 := hc 0 h0
        rw [Nat.add_zero] at h1
        obtain ⟨⟨d1, d2, d3, rfl⟩, s1, s2, s3, rfl⟩ := hds
        match off, h1 with
        | 0, h1 => rw [hf.c0] at h1; simp at h1
        | 1, h1 => rw [hf.c1] at h1; simp at h1
        | 2, h1 => rw [hf.c2] at h1; simp at h1
        | 3, h1 => rw [hf.c3] at h1; simp at h1
        | o + 4, h1 => rw [bk_cell hf] at h1; simp at h1
      refine Or.inr ⟨b, off, cap, rfl, by simpa [World.setCell] using hb, hcap, fun j hj => ?_⟩
      rw [← hc j hj]
      have e : (w.setCell ⟨fb, i, none⟩ x).heap[b]? = w.heap[b]? := bk_other (w := w) hne i x
      simp [World.cell?, e]
    · have e : ys = [] := List.eq_nil_of_length_eq_zero (by omega)
      subst e
      exact Or.inl ⟨rfl, _, _, rfl⟩
theorem DrI.ds {W0 w : World} {g fb rb : Nat} {c d s : Value} {xs ys : List Int} {p k a : Int} {L : List SSetting} (I : DrI W0 g fb rb c xs p w k a d ys s L) : (∃ ao n cp, d = .slice ao n cp) ∧ ∃ ao n cp, s = .slice ao n cp := by
  obtain ⟨a1, c1, e1⟩ := I.rw.form
  obtain ⟨a2, c2, e2⟩ := I.ow.row.form
  exact ⟨⟨_, _, _, e1⟩, _, _, _, e2⟩
theorem GOwns.setU {T : TypeId} {K : Nat} {w : World} {fb i : Nat} {x v : Value} {L : List (List Value)} (h : GOwns T K w (fb + 1) v L) : GOwns T K (w.setCell ⟨fb, i, none⟩ x) (fb + 1) v L :=
  h.stepU (grown_setCell w fb i x) (by omega)
theorem DrI.setK {W0 w : World} {g fb rb : Nat} {c d s : Value} {xs ys : List Int} {p k a : Int} {L : List SSetting} (I : DrI W0 g fb rb c xs p w k a d ys s L) (x : Int) : DrI W0 g fb rb c xs p (w.setCell ⟨fb, 0, none⟩ (.int .i64 x)) x a d ys s L := by
  have h1 := I.gl
  have h2 := I.rl
  have h3 := I.fl
  exact ⟨I.dt.set (by omega), grownT_set I.gr (by omega), bk_set I.fr 0 _, (bk_other (w := w) (by omega) _ _).trans I.rs, row_fB I.fr I.ds I.rw, I.bs, I.ow.setU, h1, h2, h3, I.dl⟩
theorem DrI.setA {W0 w : World} {g fb rb : Nat} {c d s : Value} {xs ys : List Int} {p k a : Int} {L : List SSetting} (I : DrI W0 g fb rb c xs p w k a d ys s L) (x : Int) : DrI W0 g fb rb c xs p (w.setCell ⟨fb, 1, none⟩ (.int .i64 x)) k x d ys s L := by
  have h1 := I.gl
  have h2 := I.rl
  have h3 := I.fl
  exact ⟨I.dt.set (by omega), grownT_set I.gr (by omega), I.fr.set1 x, (bk_other (w := w) (by omega) _ _).trans I.rs, row_fB I.fr I.ds I.rw, I.bs, I.ow.setU, h1, h2, h3, I.dl⟩
theorem DrI.setD {W0 w : World} {g fb rb : Nat} {c d s : Value} {xs ys : List Int} {p k a : Int} {L : List SSetting} (I : DrI W0 g fb rb c xs p w k a d ys s L) (v : Value) (zs : List Int) (hv : Row w .u8 v zs) (hz : Bytes zs) (hvl : 0 < zs.length → ∀ j, v.ownBlock = some j → W0.heap.size ≤ j) : DrI W0 g fb rb c xs p (w.setCell ⟨fb, 2, none⟩ v) k a v zs s L := by
  have h1 := I.gl
  have h2 := I.rl
  have h3 := I.fl
  exact ⟨I.dt.set (by omega), grownT_set I.gr (by omega), I.fr.set2 v, (bk_other (w := w) (by omega) _ _).trans I.rs, row_fB I.fr I.ds hv, hz, I.ow.setU, h1, h2, h3, hvl⟩
theorem DrI.setS {W0 w : World} {g fb rb : Nat} {c d s : Value} {xs ys : List Int} {p k a : Int} {L : List SSetting} (I : DrI W0 g fb rb c xs p w k a d ys s L) (v : Value) (M : List SSetting) (hv : GOwns 62 2 w (fb + 1) v (SSetting.L M)) : DrI W0 g fb rb c xs p (w.setCell ⟨fb, 3, none⟩ v) k a d ys v M := by
  have h1 := I.gl
  have h2 := I.rl
  have h3 := I.fl
  exact ⟨I.dt.set (by omega), grownT_set I.gr (by omega), I.fr.set3 v, (bk_other (w := w) (by omega) _ _).trans I.rs, row_fB I.fr I.ds I.rw, I.bs, hv.setU, h1, h2, h3, I.dl⟩
theorem DrI.mono {W0 w : World} {g fb rb : Nat} {c d s : Value} {xs ys : List Int} {p q k a : Int} {L : List SSetting} (I : DrI W0 g fb rb c xs p w k a d ys s L) (h : p ≤ q) : DrI W0 g fb rb c xs q w k a d ys s L :=
  ⟨I.dt.mono h, I.gr, I.fr, I.rs, I.rw, I.bs, I.ow, I.gl, I.rl, I.fl, I.dl⟩
theorem DrI.drew {W0 w : World} {g fb rb : Nat} {c d s : Value} {xs ys : List Int} {p k a : Int} {L : List SSetting} (I : DrI W0 g fb rb c xs p w k a d ys s L) : DrI W0 g fb rb c xs p w.drew k a d ys s L :=
  I.draw (I.dt.kept ⟨rfl, rfl, rfl, Nat.le_refl _, fun _ _ => rfl⟩) ⟨rfl, rfl, rfl, Nat.le_refl _, fun _ _ _ => rfl⟩
theorem DrI.below {W0 w w' : World} {g fb rb : Nat} {c d s : Value} {xs ys : List Int} {p k a : Int} {L : List SSetting} (I : DrI W0 g fb rb c xs p w k a d ys s L) (hb : Below w.heap.size w w') : DrI W0 g fb rb c xs p w' k a d ys s L :=
  I.draw (I.dt.kept hb) (grownT_below hb _)
theorem DrI.grF {W0 w w' : World} {g fb rb bs : Nat} {c d s : Value} {xs ys : List Int} {p k a : Int} {L : List SSetting} {r : Option Nat} (I : DrI W0 g fb rb c xs p w k a d ys s L) (hb : fb + 1 ≤ bs) (hg : w.grownBy w' r) (hr : ∀ k, r = some k → bs ≤ k) : fB w' fb k a d s :=
  (hg.block fb I.fr.lt (fun e => by have := hr fb e.symm; omega)).trans I.fr
theorem DrI.push {W0 w w' : World} {g fb rb bs : Nat} {c d s v : Value} {xs ys : List Int} {p k a : Int} {L M : List SSetting} {r : Option Nat} (I : DrI W0 g fb rb c xs p w k a d ys s L) (hb : fb + 1 ≤ bs) (hd : 0 < ys.length → ∀ b off n cp, d = .slice (some ⟨b, off, none⟩) n cp → b < bs) (hg : w.grownBy w' r) (hr : ∀ k, r = some k → bs ≤ k) (o : GOwns 62 2 w' bs v (SSetting.L M)) : DrI W0 g fb rb c xs p (w'.setCell ⟨fb, 3, none⟩ v) k a d ys v M := by
  have h1 := I.gl
  have h2 := I.rl
  have h3 := I.fl
  have F := I.grF hb hg hr
  have R : Row w' .u8 d ys := by
    rcases I.rw with h | ⟨b, off, cap, rfl, hbl, hcap, hc⟩
    · exact Or.inl h
    · by_cases h0 : 0 < ys.length
      · have hlt := hd h0 b off _ cap rfl
        refine Or.inr ⟨b, off, cap, rfl, Nat.lt_of_lt_of_le hbl hg.size, hcap, fun j hj => ?_⟩
        rw [← hc j hj]
        have e : w'.heap[b]? = w.heap[b]? := hg.block b hbl (fun e => by have := hr b e.symm; omega)
        simp [World.cell?, e]
      · have e : ys = [] := List.eq_nil_of_length_eq_zero (by omega)
        subst e
        exact Or.inl ⟨rfl, _, _, rfl⟩
  have D : Dt w' g c xs p := I.dt.ownU hg (fun k hk => by have := hr k hk; omega)
  have RS : fB w' rb 0 0 (.slice none 0 0) (.slice none 0 0) := (hg.block rb I.rs.lt (fun e => by have := hr rb e.symm; omega)).trans I.rs
  have O : GOwns 62 2 w' (fb + 1) v (SSetting.L M) := by
    obtain ⟨zs, ho, hz⟩ := o
    exact ⟨zs, owns_mono ho hb, hz⟩
  have DS : (∃ ao n cp, d = .slice ao n cp) ∧ ∃ ao n cp, s = .slice ao n cp := I.ds
  exact ⟨D.set (by omega), grownT_set (grown_own I.gr hg (fun k hk => by have := hr k hk; omega)) (by omega), F.set3 v, (bk_other (w := w') (by omega) _ _).trans RS, row_fB F DS R, I.bs, O.setU, h1, h2, h3, I.dl⟩
theorem GOwns.ownU {T : TypeId} {K base : Nat} {w : World} {v : Value} {L : List (List Value)} (h : GOwns T K w base v L) : ∀ j, v.ownBlock = some j → base ≤ j := by
  obtain ⟨zs, ho, _⟩ := h
  exact fun j hj => (ho.lt j hj).1
def tabS : Obj := .cells #[.int .i64 1, .int .i64 6, .int .i64 7, .int .i64 33] 3
def tabD : Obj := .cells #[.int .i64 16384, .int .i64 16385, .int .i64 1024, .int .i64 1025, .int .i64 16383] 3
theorem tabD_at {w : World} {b : Nat} (h : w.heap[b]? = some tabD) (i : Int) (h0 : 0 ≤ i) (h1 : i < 5) : ∃ n : Nat, w.cell? ⟨b, i.toNat, none⟩ = some (.int .i64 (n : Int)) ∧ n ≤ 16385 := by
  obtain rfl | rfl | rfl | rfl | rfl : i = 0 ∨ i = 1 ∨ i = 2 ∨ i = 3 ∨ i = 4 := by omega
  · exact ⟨16384, (bk_cell h _).trans rfl, by decide⟩
  · exact ⟨16385, (bk_cell h _).trans rfl, by decide⟩
  · exact ⟨1024, (bk_cell h _).trans rfl, by decide⟩
  · exact ⟨1025, (bk_cell h _).trans rfl, by decide⟩
  · exact ⟨16383, (bk_cell h _).trans rfl, by decide⟩
def tabK (x : Int) : Obj := .cells #[.int .i64 0, .int .i64 0, .int .i64 1, .int .i64 1, .int .i64 4, .int .i64 7, .int .i64 15, .int .i64 33, .int .i64 2, .int .i64 x] 3
theorem tabK_at {w : World} {b : Nat} {x : Int} (h : w.heap[b]? = some (tabK x)) (i : Int) (h0 : 0 ≤ i) (h1 : i < 10) : ∃ y, w.cell? ⟨b, i.toNat, none⟩ = some (.int .i64 y) := by
  obtain rfl | rfl | rfl | rfl | rfl | rfl | rfl | rfl | rfl | rfl : i = 0 ∨ i = 1 ∨ i = 2 ∨ i = 3 ∨ i = 4 ∨ i = 5 ∨ i = 6 ∨ i = 7 ∨ i = 8 ∨ i = 9 := by omega
  all_goals exact ⟨_, (bk_cell h _).trans rfl⟩
end Go.Proofs.YtdommkpeilmdnaaDoor
