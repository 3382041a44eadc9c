import Derived.Test.YtocinjcbkolnhaaTcK
namespace Go.Proofs.Ytocinjcbkolnhaa
open Go.RowKit
set_option linter.unusedVariables false

theorem GOwns.chg {S : Nat → Prop} {w w' : World} {base : Nat} {v : Value} {L : List (List Value)} (h : GOwns 35 2 w base v L) (c : ChgF S w w') (hs : ∀ k, v.ownBlock = some k → ¬ S k) : GOwns 35 2 w' base v L := by
  obtain ⟨zs, ⟨hl, h2⟩, hz⟩ := h
  refine ⟨zs, ⟨hl, ?_⟩, hz⟩
  rcases h2 with h2 | ⟨g, cap, cur, rfl, hg, hh, r⟩
  · exact Or.inl h2
  · exact Or.inr ⟨g, cap, cur, rfl, hg, (c.block g (Array.getElem?_eq_some_iff.1 hh).1 (hs g rfl)).trans hh, r⟩
theorem GOwns.ltF {w : World} {base : Nat} {v : Value} {L : List (List Value)} (h : GOwns 35 2 w base v L) : ∀ k, v.ownBlock = some k → base ≤ k ∧ k < w.heap.size := by
  intro k hk
  obtain ⟨zs, ho, _⟩ := h
  exact ho.lt k hk
set_option maxRecDepth 20000 in
theorem markTab (t : TB) (r : Value) (base : Nat) (w : World) (h : GOwns 35 2 w base r (SField.L t.es)) (hn : t.es.length ≤ 1048576) :
    Calls Try.prog 11 #[tV t r, .int .i64 1] w fun e w' => e = .returned (.int .i64 (1 + 2 * (t.es.length : Int))) ∧ (∃ P, MP P 1 t.es.length t.es.length ∧ GOwns 35 2 w' base r (SField.L P)) ∧ ChgF (oB r) w w' := by
  have A0 := After.new w (.cells #[.int .i64 t.mo, .int .i64 t.ca, .int .i64 t.ad, r] 31)
  have CM := markF r t.es base 1 _ (h.below A0.below) hn (by decide) (by decide)
  obtain ⟨ra, rc, rfl⟩ := frow_form h.row
  obtain ⟨d0, d1, d2, d3⟩ := A0.cells
  have H : Hid _ := And.intro CM A0
  clear CM A0 h
  obtain ⟨mo, ca, ad, es⟩ := t
  unfold tV
  simp only at *
  obtain ⟨n, en⟩ : ∃ n, n = es.length := ⟨_, rfl⟩
  rw [← en] at H hn d3 ⊢
  clear en
  go_enter Try.func11, Try.ntmps11
  go_wp2_with (go_at_call 23; refine H.out.1.mono ?_; rintro e w1 ⟨rfl, p1, c1⟩; have H1 : Hid _ := And.intro p1 ((ChgF.of_below (After.below H.out.2)).trans c1); clear p1 c1)
  go_ret
  exact ⟨rfl, H1.out.1, H1.out.2⟩
set_option maxRecDepth 20000 in
theorem heldTab (t : TB) (r : Value) (P : List SField) (n base : Nat) (w : World) (h : GOwns 35 2 w base r (SField.L P)) (hP : MP P 1 n n) (hn : n ≤ 1048576) :
    Calls Try.prog 12 #[tV t r, .int .i64 1] w fun e w' => e = .returned (.int .i64 (1 + 2 * (n : Int))) ∧ Below w.heap.size w w' := by
  have A0 := After.new w (.cells #[.int .i64 t.mo, .int .i64 t.ca, .int .i64 t.ad, r] 31)
  have CM := heldF r P n base 1 _ (h.below A0.below) hP hn (by decide) (by decide)
  obtain ⟨ra, rc, rfl⟩ := frow_form h.row
  obtain ⟨d0, d1, d2, d3⟩ := A0.cells
  have H : Hid _ := And.intro CM A0
  rw [hP.1] at H d3 ⊢
  have h1 : (0 : Int) ≤ 1 + 2 * (n : Int) := by omega
  obtain ⟨K, eK⟩ : ∃ K, K = 1 + 2 * (n : Int) := ⟨_, rfl⟩
  rw [← eK] at H h1 ⊢
  clear CM A0 h hP eK
  obtain ⟨mo, ca, ad, es⟩ := t
  unfold tV
  simp only at *
  go_enter Try.func12, Try.ntmps12
  go_wp2_with (go_at_call 24; refine H.out.1.mono ?_; rintro e w1 ⟨rfl, b1⟩; have H1 : Hid _ := And.intro (After.below (H.out.2.next b1)) True.intro; clear b1)
  go_ret
  exact ⟨rfl, H1.out.1⟩
/-- What the law holds: the argument, the model's answer, what was handed in, the program's answer. -/
structure LS (w u : World) (b6 b8 b9 : Nat) (t X : TB) (s r3 r4 r6 : Value) (L4 L6 : List SField) : Prop where
  k2 : u.heap[w.heap.size]? = some (.cells #[.int .i64 t.mo, .int .i64 t.ca, .int .i64 t.ad, s] 24 (0, 0))
  k6 : u.heap[b6]? = some (.cells #[.int .i64 X.mo, .int .i64 X.ca, .int .i64 X.ad, r3] 31 (0, 0))
  k8 : u.heap[b8]? = some (.cells #[.int .i64 t.mo, .int .i64 t.ca, .int .i64 t.ad, r4] 31 (0, 0))
  k9 : u.heap[b9]? = some (.cells #[.int .i64 X.mo, .int .i64 X.ca, .int .i64 X.ad, r6] 31 (0, 0))
  o3 : GOwns 35 2 u (w.heap.size + 1) r3 (SField.L X.es)
  o4 : GOwns 35 2 u (b6 + 1) r4 (SField.L L4)
  o6 : GOwns 35 2 u (b8 + 1) r6 (SField.L L6)
  i3 : ∀ k, r3.ownBlock = some k → k < b6
  i4 : ∀ k, r4.ownBlock = some k → k < b8
  i6 : ∀ k, r6.ownBlock = some k → k < b9
  lt : w.heap.size < b6 ∧ b6 < b8 ∧ b8 < b9
  bw : Below w.heap.size w u
theorem LS.sz {w u : World} {b6 b8 b9 : Nat} {t X : TB} {s r3 r4 r6 : Value} {L4 L6 : List SField} (h : LS w u b6 b8 b9 t X s r3 r4 r6 L4 L6) : b9 < u.heap.size := (Array.getElem?_eq_some_iff.1 h.k9).1
theorem LS.next {w u u' : World} {b6 b8 b9 : Nat} {t X : TB} {s r3 r4 r6 : Value} {L4 L6 : List SField} (h : LS w u b6 b8 b9 t X s r3 r4 r6 L4 L6) (hb : Below u.heap.size u u') : LS w u' b6 b8 b9 t X s r3 r4 r6 L4 L6 := by
  have := h.sz
  have := h.lt
  exact ⟨(hb.block _ (by omega)).trans h.k2, (hb.block _ (by omega)).trans h.k6, (hb.block _ (by omega)).trans h.k8, (hb.block _ (by omega)).trans h.k9, h.o3.below hb, h.o4.below hb, h.o6.below hb, h.i3, h.i4, h.i6, h.lt, h.bw.trans (hb.mono h.bw.size)⟩
theorem LS.mark4 {w u u' : World} {b6 b8 b9 : Nat} {t X : TB} {s r3 r4 r6 : Value} {L4 L6 P : List SField} (h : LS w u b6 b8 b9 t X s r3 r4 r6 L4 L6) (c : ChgF (oB r4) u u') (o : GOwns 35 2 u' (b6 + 1) r4 (SField.L P)) : LS w u' b6 b8 b9 t X s r3 r4 r6 P L6 := by
  have hs := h.sz
  have hl := h.lt
  have n4 : ∀ k, oB r4 k → b6 < k ∧ k < b8 := fun k hk => ⟨(h.o4.ltF k hk).1, h.i4 k hk⟩
  refine ⟨(c.block _ (by omega) (fun e => by have := n4 _ e; omega)).trans h.k2, (c.block _ (by omega) (fun e => by have := n4 _ e; omega)).trans h.k6, (c.block _ (by omega) (fun e => by have := n4 _ e; omega)).trans h.k8, (c.block _ (by omega) (fun e => by have := n4 _ e; omega)).trans h.k9, h.o3.chg c (fun k hk e => by have := n4 _ e; have := h.i3 k hk; omega), o, h.o6.chg c (fun k hk e => by have := n4 _ e; have := (h.o6.ltF k hk).1; omega), h.i3, h.i4, h.i6, h.lt, ?_⟩
  exact h.bw.trans (c.below h.bw.size (fun k hk => by have := n4 _ hk; omega))
theorem LS.mark6 {w u u' : World} {b6 b8 b9 : Nat} {t X : TB} {s r3 r4 r6 : Value} {L4 L6 P : List SField} (h : LS w u b6 b8 b9 t X s r3 r4 r6 L4 L6) (c : ChgF (oB r6) u u') (o : GOwns 35 2 u' (b8 + 1) r6 (SField.L P)) : LS w u' b6 b8 b9 t X s r3 r4 r6 L4 P := by
  have hs := h.sz
  have hl := h.lt
  have n6 : ∀ k, oB r6 k → b8 < k ∧ k < b9 := fun k hk => ⟨(h.o6.ltF k hk).1, h.i6 k hk⟩
  refine ⟨(c.block _ (by omega) (fun e => by have := n6 _ e; omega)).trans h.k2, (c.block _ (by omega) (fun e => by have := n6 _ e; omega)).trans h.k6, (c.block _ (by omega) (fun e => by have := n6 _ e; omega)).trans h.k8, (c.block _ (by omega) (fun e => by have := n6 _ e; omega)).trans h.k9, h.o3.chg c (fun k hk e => by have := n6 _ e; have := h.i3 k hk; omega), h.o4.chg c (fun k hk e => by have := n6 _ e; have := h.i4 k hk; omega), o, h.i3, h.i4, h.i6, h.lt, ?_⟩
  exact h.bw.trans (c.below h.bw.size (fun k hk => by have := n6 _ hk; omega))
theorem tb4 {u : World} {b : Nat} {x y z : Int} {s : Value} {T : TypeId} (h : u.heap[b]? = some (.cells #[.int .i64 x, .int .i64 y, .int .i64 z, s] T (0, 0))) : u.cell? ⟨b, 0, none⟩ = some (.int .i64 x) ∧ u.cell? ⟨b, 1, none⟩ = some (.int .i64 y) ∧ u.cell? ⟨b, 2, none⟩ = some (.int .i64 z) ∧ u.cell? ⟨b, 3, none⟩ = some s :=
  ⟨by rw [bk_cell h]; rfl, by rw [bk_cell h]; rfl, by rw [bk_cell h]; rfl, by rw [bk_cell h]; rfl⟩
end Go.Proofs.Ytocinjcbkolnhaa
