import Derived.Test.YthjakbpcpfmbjaaSrcB
import Derived.Test.YthjakbpcpfmbjaaSource
import Derived.Test.YthjakbpcpfmbjaaBlocks
namespace Go.Proofs.Ythjakbpcpfmbjaa
open Go.RowKit
set_option linter.unusedVariables false

/-- The source stands, at whatever state. -/
def Dt (W : World) (g : Nat) (c : Value) (xs : List Int) (p : Int) : Prop := Low g c ∧ ∃ s, Drw W g c xs s ∧ s.pos ≤ p
theorem Dt.lt {W : World} {g : Nat} {c : Value} {xs : List Int} {p : Int} (h : Dt W g c xs p) : g < W.heap.size := by
  obtain ⟨_, s, hd, _⟩ := h
  exact drw_lt hd
theorem Dt.mono {W : World} {g : Nat} {c : Value} {xs : List Int} {p q : Int} (h : Dt W g c xs p) (hq : p ≤ q) : Dt W g c xs q := by
  obtain ⟨l, s, hd, hp⟩ := h
  exact ⟨l, s, hd, Int.le_trans hp hq⟩
theorem Dt.alloc {W : World} {g : Nat} {c : Value} {xs : List Int} {p : Int} (h : Dt W g c xs p) (o : Obj) : Dt (W.alloc o) g c xs p := by
  obtain ⟨l, s, hd, hp⟩ := h
  exact ⟨l, s, drw_alloc hd o, hp⟩
theorem Dt.set {W : World} {g b i : Nat} {c u : Value} {xs : List Int} {p : Int} (h : Dt W g c xs p) (hb : g < b) : Dt (W.setCell ⟨b, i, none⟩ u) g c xs p := by
  obtain ⟨l, s, hd, hp⟩ := h
  exact ⟨l, s, hd.kept (grown_setCell W b i u) (fun e => by have := Option.some.inj e; omega) (fun b' off n cap h0 e e' => by have := l b' off n cap h0 e; have := Option.some.inj e'; omega), hp⟩
theorem grownT_set {w wx : World} {g b i : Nat} {u : Value} (h : w.grownBy wx (some g)) (hb : w.heap.size ≤ b) : w.grownBy (wx.setCell ⟨b, i, none⟩ u) (some g) :=
  grown_own h (grown_setCell wx b i u) (fun k e => by have := Option.some.inj e; omega)
theorem Dt.row {W W' : World} {g : Nat} {c v : Value} {xs ys : List Int} {p : Int} (hd : Dt W g c xs p) (h : Row W .u8 v ys) (gr : W.grownBy W' (some g)) : Row W' .u8 v ys := by
  obtain ⟨_, s, hd, _⟩ := hd
  rcases h with h | ⟨b, off, cap, rfl, hb, hcap, hc⟩
  · exact Or.inl h
  · by_cases h0 : 0 < ys.length
    · have hne : b ≠ g := by
        intro e
        subst e
        have h1 := hc 0 h0
        rw [Nat.add_zero] at h1
        have h2 : W.cell? ⟨b, off, none⟩ = (#[c, .int .i64 s.pos, .int .i64 s.seed] : Array Value)[off]? := by simp [World.cell?, hd.blk]
        rw [h2] at h1
        obtain ⟨ao, cp, ec⟩ := hd.row.form
        match off, h1 with
        | 0, h1 => rw [ec] at h1; simp at h1
        | 1, h1 => simp at h1
        | 2, h1 => simp at h1
        | o + 3, h1 => simp at h1
      have hq := gr.block b hb (fun e => hne (Option.some.inj e))
      refine Or.inr ⟨b, off, cap, rfl, Nat.lt_of_lt_of_le hb gr.size, hcap, fun j hj => ?_⟩
      have e : W'.cell? ⟨b, off + j, none⟩ = W.cell? ⟨b, off + j, none⟩ := by simp [World.cell?, hq]
      rw [e]
      exact hc j hj
    · have e : ys = [] := List.eq_nil_of_length_eq_zero (by omega)
      subst e
      exact Or.inl ⟨rfl, _, _, rfl⟩
theorem blk_drawnT {W W' : World} {g b : Nat} {o : Obj} (h : W.heap[b]? = some o) (gr : W.grownBy W' (some g)) (hb : b ≠ g) : W'.heap[b]? = some o :=
  (gr.block b (Array.getElem?_eq_some_iff.1 h).1 (fun e => hb (Option.some.inj e))).trans h
theorem blk_allocT {W : World} {b : Nat} {o : Obj} (h : W.heap[b]? = some o) (o2 : Obj) : (W.alloc o2).heap[b]? = some o :=
  (Below.heap_alloc _ _ _ (Array.getElem?_eq_some_iff.1 h).1).trans h
theorem nextT (g : Nat) (c : Value) (xs : List Int) (p n : Int) (W : World) (h : Dt W g c xs p) (hp : p ≤ 1000000) (h1 : 1 ≤ n) (h2 : n ≤ 2147483648) :
    Calls Try.prog 13 #[.pointer (some ⟨g, 0, none⟩), .int .i64 n] W fun e w' => ∃ k : Int, e = .returned (.int .i64 k) ∧ 0 ≤ k ∧ k < n ∧ Dt w' g c xs (p + 3) ∧ W.grownBy w' (some g) := by
  obtain ⟨l, s, hd, hs⟩ := h
  refine (nextC g c xs n s W hd (by omega) h1 h2).mono ?_
  rintro e w' ⟨rfl, d, gr⟩
  have b := nextV_bd xs n s h1
  have q := nextS_pos xs n s
  exact ⟨_, rfl, b.1, b.2, ⟨l, _, d, by omega⟩, gr⟩
theorem chanceT (g : Nat) (c : Value) (xs : List Int) (p n : Int) (W : World) (h : Dt W g c xs p) (hp : p ≤ 1000000) (h1 : 1 ≤ n) (h2 : n ≤ 2147483648) :
    Calls Try.prog 15 #[.pointer (some ⟨g, 0, none⟩), .int .i64 n] W fun e w' => ∃ k : Bool, e = .returned (.bool k) ∧ Dt w' g c xs (p + 3) ∧ W.grownBy w' (some g) := by
  obtain ⟨l, s, hd, hs⟩ := h
  refine (chanceC g c xs n s W hd (by omega) h1 h2).mono ?_
  rintro e w' ⟨rfl, d, gr⟩
  have q := nextS_pos xs n s
  exact ⟨_, rfl, ⟨l, _, d, by omega⟩, gr⟩
theorem grownT_below {w w' : World} (h : Below w.heap.size w w') (r : Option Nat) : w.grownBy w' r := ⟨h.os, h.tape, h.output, h.size, fun k hk _ => h.block k hk⟩
theorem Dt.kept {W W' : World} {g : Nat} {c : Value} {xs : List Int} {p : Int} (h : Dt W g c xs p) (hb : Below W.heap.size W W') : Dt W' g c xs p := by
  obtain ⟨l, s, hd, hp⟩ := h
  exact ⟨l, s, hd.kept (grownT_below hb none) (by simp) (by intros; simp), hp⟩
theorem dt_new {w : World} {v : Value} {xs : List Int} (hrow : Row w .u8 v xs) (hB : Bytes xs) (hl : xs.length ≤ 1048576) :
    Dt (w.alloc (.cells #[v, .int .i64 0, .int .i64 ((xs.length : Int) % 1000)] 61)) w.heap.size v xs 0 := by
  refine ⟨?_, _, drw_new hrow hB hl, Int.le_refl 0⟩
  intro b off n cap h0 e
  rcases hrow with ⟨rfl, ao, cap', e'⟩ | ⟨b', off', cap', e', hb, _⟩
  · rw [e] at e'; cases e'; omega
  · rw [e] at e'; cases e'; omega

/-- The table of odd times. -/
def oddO : Obj := .cells #[.int .i64 0, .int .i64 1, .int .i64 (-1), .int .i64 1000000000000, .int .i64 1000000000001, .int .i64 9223372036854775807] 3
/-- What is drawn for a token. -/
def TkDr (w' : World) (r : Value) : Prop := ∃ a0 a1 a3 p0 p1 p3 ks ads os, ∃ t : Int, r = .tuple #[.slice a0 (List.length ks) p0, .slice a1 (List.length ads) p1, .int .i64 t, .slice a3 (List.length os) p3] ∧ Row w' .u8 (.slice a0 ks.length p0) ks ∧ Row w' .u8 (.slice a1 ads.length p1) ads ∧ Row w' .u8 (.slice a3 os.length p3) os ∧ Bytes ks ∧ Bytes ads ∧ Bytes os ∧ ks.length ≤ 20 ∧ ads.length ≤ 26 ∧ os.length ≤ 10 ∧ -1 ≤ t ∧ t ≤ 9223372036854775807
end Go.Proofs.Ythjakbpcpfmbjaa
