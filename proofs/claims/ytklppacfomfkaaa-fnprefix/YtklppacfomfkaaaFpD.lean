import Derived.Test.YtklppacfomfkaaaFtD
import Derived.Test.YtklppacfomfkaaaPfM
namespace Go.Proofs.Ytklppacfomfkaaa
open Go.RowKit
set_option linter.unusedVariables false

theorem numberT (g : Nat) (c : Value) (xs : List Int) (p : Int) (W : World) (h : Dt W g c xs p) (hp : p ≤ 1000000) :
    Calls Try.prog 10 #[.pointer (some ⟨g, 0, none⟩)] W fun e w' => ∃ k : Int, e = .returned (.int .i64 k) ∧ Dt w' g c xs (p + 9) ∧ W.grownBy w' (some g) := by
  obtain ⟨l, s, hd, hs⟩ := h
  refine (numberC g c xs s W hd (by omega)).mono ?_
  rintro e w' ⟨rfl, d, gr⟩
  have q := numS_pos xs s
  exact ⟨_, rfl, ⟨l, _, d, by omega⟩, gr⟩
theorem own_formN {w : World} {base n : Nat} {v : Value} {xs : List Int} {T : TypeId} {k : IntKind} (h : w.ownsRow base T 1 v n (xs.map (Value.int k))) (hn : 0 < n) : ∃ g cap, v = .slice (some ⟨g, 0, none⟩) n cap ∧ g < w.heap.size ∧ base ≤ g ∧ n ≤ cap ∧ cap ≤ maxLen ∧ ∀ j, j < n → w.cell? ⟨g, j, none⟩ = some (.int k (xs.getD j 0)) := by
  have hl : xs.length = n := by have := h.1; simpa using this
  rcases h.2 with ⟨rfl, e⟩ | ⟨g, cap, cur, rfl, hg, hh, hnc, hcm, _⟩
  · omega
  · refine ⟨g, cap, rfl, (Array.getElem?_eq_some_iff.1 hh).1, hg, hnc, hcm, fun j hj => ?_⟩
    have := h.cellAt j (by simpa [hl] using hj)
    rw [this]
    simp [List.getD, hl, hj]
theorem appP2 {w wr w4 : World} {o : Obj} {n cp : Nat} (hb : Below w.heap.size w wr) (g : (wr.alloc o).grownBy w4 (Value.slice (some ⟨wr.heap.size, 0, none⟩) n cp).ownBlock) : Below w.heap.size w w4 ∧ Below wr.heap.size wr w4 := by
  have b1 : Below wr.heap.size wr (wr.alloc o) := (Below.refl _ _).alloc (Nat.le_refl _) _
  have b2 : Below wr.heap.size wr w4 := b1.grown g b1.size (fun k hk => by have : some wr.heap.size = some k := hk; injection this; omega)
  exact ⟨hb.trans (b2.mono hb.size), b2⟩
theorem fl_quo (j : Nat) (h1 : 1 ≤ j) (h8 : j ≤ 8) (k : Int) (h0 : 0 ≤ k) (hk : k < 256 / fl j) : 0 ≤ fl j * k ∧ fl j * k < 256 := by
  rcases (show j = 1 ∨ j = 2 ∨ j = 3 ∨ j = 4 ∨ j = 5 ∨ j = 6 ∨ j = 7 ∨ j = 8 by omega) with rfl | rfl | rfl | rfl | rfl | rfl | rfl | rfl <;> simp [fl] at hk ⊢ <;> omega
theorem fl_quo1 (j : Nat) (h1 : 1 ≤ j) (h8 : j ≤ 8) : 1 ≤ 256 / fl j ∧ 256 / fl j ≤ 256 := by
  rcases (show j = 1 ∨ j = 2 ∨ j = 3 ∨ j = 4 ∨ j = 5 ∨ j = 6 ∨ j = 7 ∨ j = 8 by omega) with rfl | rfl | rfl | rfl | rfl | rfl | rfl | rfl <;> simp [fl]
set_option maxHeartbeats 2000000 in
theorem drawPf (v : Value) (xs : List Int) (w : World) (hrow : Row w .u8 v xs) (hB : Bytes xs) (hl : xs.length ≤ 1048576) :
    Calls Try.prog 4 #[v] w fun e w' => ∃ a b c : Int, e = .returned (.tuple #[.int .i64 a, .int .i64 b, .int .i64 c]) ∧ Below w.heap.size w w' := by
  have S0 := sourceC v xs w hrow hB hl
  have D0 := dt_new hrow hB hl
  have H0 : Hid _ := And.intro S0 (And.intro D0 ((Below.refl w.heap.size w).alloc (Nat.le_refl _) (.cells #[v, .int .i64 0, .int .i64 ((xs.length : Int) % 1000)] 40)))
  have B0 : Hid (∀ u u' : World, Below w.heap.size w u → u.grownBy u' (some w.heap.size) → Below w.heap.size w u') := fun u u' hb hg => hb.grown hg hb.size (fun q hq => by have := Option.some.inj hq; omega)
  clear S0 D0 hrow hB hl
  go_enter Try.func4, Try.ntmps4
  go_wp2_with fail
  go_at_call 8
  refine H0.out.1.mono ?_
  rintro e w1 ⟨rfl, hw1⟩
  have H1 : Hid _ := And.intro (show Dt w1 w.heap.size v xs 0 by rw [hw1]; exact H0.out.2.1) (show Below w.heap.size w w1 by rw [hw1]; exact H0.out.2.2)
  clear hw1 H0
  go_wp2_with fail
  go_at_call 9
  refine (nextT w.heap.size v xs 0 8 w1 H1.out.1 (by decide) (by decide) (by decide)).mono ?_
  rintro e w2 ⟨k, rfl, k0, k8, d2, g2⟩
  have H2 : Hid _ := And.intro d2 (B0.out _ _ H1.out.2 g2)
  clear d2 g2 H1
  obtain ⟨j, ej⟩ : ∃ j : Nat, 1 + k = (j : Int) := ⟨(1 + k).toNat, by omega⟩
  have j1 : 1 ≤ j := by omega
  have j8 : j ≤ 8 := by omega
  go_wp2_with fail
  go_loopw [7, 8] (fun a i wr => ∃ q : Nat, q ≤ j ∧ i = .int .i64 (q : Int) ∧ a = .int .i64 (fl q) ∧ wr = w2) (fun _ i _ => j - (intOf i).toNat)
  case atStart => exact ⟨0, by omega, rfl, rfl, rfl⟩
  case round =>
    obtain ⟨q, hq, rfl, rfl, rfl⟩ := hrel
    by_cases hlt : q < j
    · have b1 := fl_lo q
      have b2 := fl_hi q (by omega)
      have es : Hid (fl (q + 1) = 2 * fl q) := fl_succ q
      obtain ⟨f, eg⟩ : ∃ g, g = fl q := ⟨_, rfl⟩
      rw [← eg] at b1 b2 es ⊢
      clear eg
      go_wp2
      go_roundw
      case rel => exact ⟨q + 1, by omega, by go_num, by rw [es.out], by first | rfl | trivial⟩
      case measure => simp [intOf]; omega
    · obtain rfl : q = j := by omega
      have f2 := fl_two q j1
      have f8 := fl_hi q j8
      have q1 := fl_quo1 q j1 j8
      have hq2 : Hid (∀ k : Int, 0 ≤ k → k < 256 / fl q → 0 ≤ fl q * k ∧ fl q * k < 256) := fun k => fl_quo q j1 j8 k
      obtain ⟨f, ef⟩ : ∃ f, f = fl q := ⟨_, rfl⟩
      rw [← ef] at f2 f8 q1 hq2 ⊢
      clear ef hlt hq
      obtain ⟨q1a, q1b⟩ := q1
      go_wp2_with fail
      go_at_call 9
      refine (nextT w.heap.size v xs 3 (256 / f) wr H2.out.1 (by decide) q1a (by omega)).mono ?_
      rintro e w3 ⟨z, rfl, z0, z1, d3, g3⟩
      have H3 : Hid _ := And.intro d3 (B0.out _ _ H2.out.2 g3)
      obtain ⟨fz0, fz1⟩ := hq2.out z z0 z1
      clear d3 g3 H2
      go_wp2_with fail
      go_at_call 10
      refine (numberT w.heap.size v xs _ w3 H3.out.1 (by decide)).mono ?_
      rintro e w4 ⟨nv, rfl, d4, g4⟩
      have H4 : Hid _ := And.intro d4 (B0.out _ _ H3.out.2 g4)
      clear d4 g4 H3
      go_wp2_with fail
      go_at_call 11
      refine (chanceT w.heap.size v xs _ 3 w4 H4.out.1 (by decide) (by decide) (by decide)).mono ?_
      rintro e w5 ⟨c1, rfl, d5, g5⟩
      have H5 : Hid _ := And.intro d5 (B0.out _ _ H4.out.2 g5)
      clear d5 g5 H4
      have N5 : Hid (∀ (u : World) (p n : Int), Dt u w.heap.size v xs p → p ≤ 1000000 → 1 ≤ n → n ≤ 2147483648 → Calls Try.prog 9 #[.pointer (some ⟨w.heap.size, 0, none⟩), .int .i64 n] u fun e w' => ∃ k : Int, e = .returned (.int .i64 k) ∧ 0 ≤ k ∧ k < n ∧ Dt w' w.heap.size v xs (p + 3) ∧ u.grownBy w' (some w.heap.size)) := fun u p n h1 h2 h3 h4 => nextT w.heap.size v xs p n u h1 h2 h3 h4
      have C5 : Hid (∀ (u : World) (p n : Int), Dt u w.heap.size v xs p → p ≤ 1000000 → 1 ≤ n → n ≤ 2147483648 → Calls Try.prog 11 #[.pointer (some ⟨w.heap.size, 0, none⟩), .int .i64 n] u fun e w' => ∃ k : Bool, e = .returned (.bool k) ∧ Dt w' w.heap.size v xs (p + 3) ∧ u.grownBy w' (some w.heap.size)) := fun u p n h1 h2 h3 h4 => chanceT w.heap.size v xs p n u h1 h2 h3 h4
      cases c1
      · go_wp2_with fail
        go_at_call 11
        refine (C5.out w5 _ 10 H5.out.1 (by decide) (by decide) (by decide)).mono ?_
        rintro e w6 ⟨c2, rfl, d6, g6⟩
        have H6 : Hid _ := And.intro d6 (B0.out _ _ H5.out.2 g6)
        clear d6 g6 H5
        cases c2
        · go_wp2
          go_ret3
          exact ⟨_, _, _, rfl, H6.out.2⟩
        · go_wp2_with fail
          go_at_call 9
          refine (N5.out w6 _ 11 H6.out.1 (by decide) (by decide) (by decide)).mono ?_
          rintro e w7 ⟨y1, rfl, ya, yb, d7, g7⟩
          have H7 : Hid _ := And.intro d7 (B0.out _ _ H6.out.2 g7)
          clear d7 g7 H6
          go_wp2_with fail
          go_at_call 9
          refine (N5.out w7 _ 300 H7.out.1 (by decide) (by decide) (by decide)).mono ?_
          rintro e w8 ⟨y2, rfl, yc, yd, d8, g8⟩
          have H8 : Hid _ := And.intro d8 (B0.out _ _ H7.out.2 g8)
          clear d8 g8 H7
          go_wp2
          go_ret3
          exact ⟨_, _, _, rfl, H8.out.2⟩
      · go_wp2_with fail
        go_at_call 9
        refine (N5.out w5 _ 3 H5.out.1 (by decide) (by decide) (by decide)).mono ?_
        rintro e w9 ⟨y0, rfl, ye, yf, d9, g9⟩
        have H9 : Hid _ := And.intro d9 (B0.out _ _ H5.out.2 g9)
        clear d9 g9 H5
        go_wp2_with fail
        go_at_call 11
        refine (C5.out w9 _ 10 H9.out.1 (by decide) (by decide) (by decide)).mono ?_
        rintro e w6 ⟨c2, rfl, d6, g6⟩
        have H6 : Hid _ := And.intro d6 (B0.out _ _ H9.out.2 g6)
        clear d6 g6 H9
        cases c2
        · go_wp2
          go_ret3
          exact ⟨_, _, _, rfl, H6.out.2⟩
        · go_wp2_with fail
          go_at_call 9
          refine (N5.out w6 _ 11 H6.out.1 (by decide) (by decide) (by decide)).mono ?_
          rintro e w7 ⟨y1, rfl, ya, yb, d7, g7⟩
          have H7 : Hid _ := And.intro d7 (B0.out _ _ H6.out.2 g7)
          clear d7 g7 H6
          go_wp2_with fail
          go_at_call 9
          refine (N5.out w7 _ 300 H7.out.1 (by decide) (by decide) (by decide)).mono ?_
          rintro e w8 ⟨y2, rfl, yc, yd, d8, g8⟩
          have H8 : Hid _ := And.intro d8 (B0.out _ _ H7.out.2 g8)
          clear d8 g8 H7
          go_wp2
          go_ret3
          exact ⟨_, _, _, rfl, H8.out.2⟩
end Go.Proofs.Ytklppacfomfkaaa
