import Derived.Test.YtabnicgbcedddaaTgI
namespace Go.Proofs.Ytabnicgbcedddaa
open Go.RowKit
set_option linter.unusedVariables false

theorem tg_huge (t : TB) (s : Value) (i : Int) (w : World) (h : GRow 2 w s (SField.L t.es)) (hm : t.es.length ≤ 9223372036854775807) (hf : fin t.es) (ho : 1048576 < (t.es.length : Int) + txs t.es) :
    Calls Try.prog 6 #[tV t s, .int .i64 i] w fun e w' => e = .returned (.bool true) ∧ Below w.heap.size w w' := by
  have b0 : Below w.heap.size w (w.alloc (.cells #[.int .i64 t.mo, .int .i64 t.ca, .int .i64 t.ad, s] 24)) := (Below.refl _ _).alloc (Nat.le_refl _) _
  have C := szTab t s 1048576 (-1) _ (h.below b0) hm (by decide) (by decide) hf (by rw [if_neg (by omega)])
  obtain ⟨ao, cp, rfl⟩ := frow_form h
  obtain ⟨n, en⟩ : ∃ n, n = t.es.length := ⟨_, rfl⟩
  rw [← en] at C b0 ⊢
  have H : Hid _ := And.intro C b0
  clear C b0 h hm hf ho en
  unfold tV at *
  obtain ⟨mo, ca, ad, es⟩ := t
  go_enter Try.func6, Try.ntmps6
  go_wp2_with (go_at_call 7; refine H.out.1.mono ?_; rintro e w2 ⟨rfl, b2⟩; have H2 : Hid _ := And.intro (H.out.2.trans (b2.mono H.out.2.size)) True.intro; clear b2)
  go_ret
  exact ⟨rfl, H2.out.1⟩
set_option maxHeartbeats 4000000 in
theorem tg_law (t : TB) (s : Value) (i : Int) (w : World) (h : GRow 2 w s (SField.L t.es)) (hf : fin t.es) (ho : (t.es.length : Int) + txs t.es ≤ 1048576) :
    Calls Try.prog 6 #[tV t s, .int .i64 i] w fun e w' => e = .returned (.bool true) ∧ Below w.heap.size w w' := by
  have hn : t.es.length ≤ 1048576 := by have := txs_nn t.es; omega
  have ht : txs t.es ≤ 1048576 := by omega
  have A0 := After.new w (.cells #[.int .i64 t.mo, .int .i64 t.ca, .int .i64 t.ad, s] 24)
  have C := szTab t s 1048576 (1048576 - (t.es.length + txs t.es)) _ (h.below A0.below) (by omega) (by decide) (by decide) hf (by rw [if_pos (by omega)])
  have DT : ∀ u, Below w.heap.size w u → Calls Try.prog 9 #[tV t s] u fun e w' => ∃ r, e = .returned (tV t r) ∧ GOwns 41 2 w' u.heap.size r (SField.L t.es) ∧ Below u.heap.size u w' := fun u hb => toTab t s u (h.below hb) hn
  have DS : ∀ u r, GRow 2 u r (SField.L t.es) → _ := fun u r hr => tgS t r i u hr hn ht
  have DI : ∀ u r, GRow 2 u r (SField.L t.es) → _ := fun u r hr => tgI t r i u hr hn ht
  have DE : ∀ u r r', GRow 2 u r (SField.L t.es) → GRow 2 u r' (SField.L t.es) → _ := fun u r r' h1 h2 => eqTab t r r' u h1 h2 hn
  obtain ⟨R, eR⟩ : ∃ R, R = 1048576 - ((t.es.length : Int) + txs t.es) := ⟨_, rfl⟩
  have r0 : 0 ≤ R := by omega
  rw [← eR] at C
  obtain ⟨K, eK⟩ : ∃ K, K = tgR t i := ⟨_, rfl⟩
  rw [← eK] at DS DI
  obtain ⟨⟨xa, xc⟩, code⟩ := K
  have FF : Hid (∀ (u : World) (b : Nat) (r : Value), GOwns 41 2 u b r (SField.L t.es) → ∃ ao cp, r = .slice ao t.es.length cp) := fun u b r ho => frow_form ho.row
  have DF : ∀ u, _ := fun u => eqField xa xc u
  obtain ⟨ao, cp, rfl⟩ := frow_form h
  obtain ⟨n, en⟩ : ∃ n, n = t.es.length := ⟨_, rfl⟩
  have H : Hid _ := And.intro C (And.intro A0 (And.intro DT (And.intro DS (And.intro DI (And.intro DE DF)))))
  rw [← en] at H FF ⊢
  clear C A0 DT DS DI DE DF h hf ho hn ht eR eK en
  have hk : (code != code) = false := by simp
  unfold tV fV at *
  obtain ⟨mo, ca, ad, es⟩ := t
  simp only at *
  go_enter Try.func6, Try.ntmps6
  go_wp2_with fail
  go_at_call 7
  refine H.out.1.mono ?_
  rintro e w1 ⟨rfl, b1⟩
  have A1 := H.out.2.1.next b1
  obtain ⟨d0, d1, d2, d3⟩ := A1.cells
  have H1 : Hid _ := And.intro A1 True.intro
  clear A1 b1
  go_wp2_with fail
  go_at_call 9
  refine (H.out.2.2.1 w1 (After.below H1.out.1)).mono ?_
  rintro e w2 ⟨r2, rfl, o2, b2⟩
  obtain ⟨ra2, rc2, er2⟩ := FF.out _ _ _ o2
  subst er2
  have H2 : Hid _ := And.intro (H1.out.1.next b2) o2.row
  clear b2 o2 d0 d1 d2 d3
  go_wp2_with fail
  go_at_call 20
  refine (H.out.2.2.2.1 w2 _ H2.out.2).mono ?_
  rintro e w3 ⟨rfl, b3⟩
  have a3 := (Below.refl w3.heap.size w3).alloc (Nat.le_refl _) (.cells #[.string xa, .string xc] 41)
  have A3 := (H2.out.1.next b3).next a3
  have N3 := After.new w3 (.cells #[.string xa, .string xc] 41)
  obtain ⟨d0, d1, d2, d3⟩ := A3.cells
  have zz : w.heap.size < w3.heap.size := by have := Below.size (H2.out.1.next b3); simp at this; omega
  obtain ⟨g0, g1, g2, g3⟩ := (H2.out.1.next b3).cells
  have H3 : Hid _ := And.intro A3 N3
  clear A3 b3 a3 N3
  go_wp2_with fail
  go_at_call 9
  refine (H.out.2.2.1 _ (After.below H3.out.1)).mono ?_
  rintro e w4 ⟨r4, rfl, o4, b4⟩
  obtain ⟨ra4, rc4, er4⟩ := FF.out _ _ _ o4
  subst er4
  have a4 := (Below.refl w4.heap.size w4).alloc (Nat.le_refl _) (.cells #[.int .i64 mo, .int .i64 ca, .int .i64 ad, .slice ra4 n rc4] 29)
  have A5 := (H3.out.1.next b4).next a4
  have N5 := (H3.out.2.next b4).next a4
  have M5 := After.new w4 (.cells #[.int .i64 mo, .int .i64 ca, .int .i64 ad, .slice ra4 n rc4] 29)
  have H5 : Hid _ := And.intro A5 (And.intro N5 (And.intro M5 (o4.row.below a4)))
  clear b4 o4 A5 N5 M5 a4 d0 d1 d2 d3 g0 g1 g2 g3
  go_wp2_with fail
  go_at_call 21
  refine (H.out.2.2.2.2.1 _ _ H5.out.2.2.2).mono ?_
  rintro e w6 ⟨rfl, b6⟩
  have a6 := (Below.refl w6.heap.size w6).alloc (Nat.le_refl _) (.cells #[.string xa, .string xc] 41)
  have N6 := H5.out.2.1.next b6
  obtain ⟨q0, q1, q2, _, _⟩ := N6.cells2
  have z3 : w3.heap.size < w6.heap.size := (Array.getElem?_eq_some_iff.1 q0).1
  have H6 : Hid _ := And.intro ((H5.out.1.next b6).next a6) (And.intro ((H5.out.2.2.1.next b6).next a6) ((H5.out.2.2.2.below b6).below a6))
  clear b6 a6 N6 q0
  go_wp2_with fail
  go_at_call 22
  refine (H.out.2.2.2.2.2.2 _).mono ?_
  rintro e w7 ⟨rfl, b7⟩
  have A7 := (H6.out.1.next b7).next (drew_below w7)
  have N7 := (H6.out.2.1.next b7).next (drew_below w7)
  obtain ⟨d0, d1, d2, d3⟩ := A7.cells
  obtain ⟨e0, e1, e2, e3⟩ := N7.cells
  have H7 : Hid _ := And.intro A7 (And.intro N7 ((H6.out.2.2.below b7).below (drew_below w7)))
  clear A7 N7 b7
  go_wp2_with fail
  go_region_with (first
    | (go_at_call 9; refine (H.out.2.2.1 w7.drew (After.below H7.out.1)).mono ?_; rintro e w8 ⟨r8, rfl, o8, b8⟩; obtain ⟨ra8, rc8, er8⟩ := FF.out _ _ _ o8; subst er8; obtain ⟨e0', e1', e2', e3'⟩ := (H7.out.2.1.next b8).cells; have H8 : Hid _ := And.intro (H7.out.1.next b8) (And.intro o8.row (H7.out.2.2.below b8)); clear b8 o8)
    | (go_at_call 11; refine (H.out.2.2.2.2.2.1 _ _ _ H8.out.2.2 H8.out.2.1).mono ?_; rintro e w9 ⟨rfl, b9⟩; have H9 : Hid _ := And.intro (After.below (H8.out.1.next b9)) True.intro; clear b9))
  all_goals
    go_wp2
    go_ret
    exact ⟨rfl, H9.out.1⟩
theorem fnExactTableGet_walk (t : TB) (s : Value) (i : Int) (hl : t.es.length ≤ maxLen) (hf : fin t.es) (_ : (Lit.int .i64 i).wf = true) (w : World) (h : GRow 2 w s (SField.L t.es)) :
    Calls Try.prog 6 #[tV t s, .int .i64 i] w fun e w' => e = .returned (.bool true) ∧ Below w.heap.size w w' := by
  by_cases ho : (t.es.length : Int) + txs t.es ≤ 1048576
  · exact tg_law t s i w h hf ho
  · exact tg_huge t s i w h (by unfold maxLen at hl; omega) hf (by omega)
end Go.Proofs.Ytabnicgbcedddaa
