import Derived.Test.YtmaoajadcgoopaaEnU
import Derived.Test.YtmaoajadcgoopaaEnV
import Derived.Deep.RegionWith
namespace Go.Proofs.Ytmaoajadcgoopaa
open Go.RowKit
set_option linter.unusedVariables false

theorem enc_huge (e : EN) (s q : Value) (w : World) (hs : GRow 2 w s (SField.L e.t.es)) (hq : GRow 3 w q (SRef.L e.op)) (hm : e.t.es.length ≤ 9223372036854775807) (hm2 : e.op.length ≤ 9223372036854775807) (hf : fin e.t.es) (ho : 1048576 < e.tot) :
    Calls Try.prog 3 #[eV e s q] w fun x w' => x = .returned (.bool true) ∧ Below w.heap.size w w' := by
  have A0 := After.new w (.cells #[.int .i64 e.t.mo, .int .i64 e.t.ca, .int .i64 e.t.ad, s, .int .i64 e.kn, .int .i64 e.bl, q] 27)
  have C := szEnc e s q (-1) _ (hs.below (After.below A0)) (hq.below (After.below A0)) hm hm2 hf (by rw [if_neg (by omega)])
  obtain ⟨sa, sc, rfl⟩ := frow_form hs
  obtain ⟨qa, qc, rfl⟩ := rrow_form hq
  obtain ⟨n, en⟩ : ∃ n, n = e.t.es.length := ⟨_, rfl⟩
  obtain ⟨m, em⟩ : ∃ m, m = e.op.length := ⟨_, rfl⟩
  have H : Hid _ := And.intro C A0
  rw [← en, ← em] at H ⊢
  clear C A0 hs hq hm hm2 hf ho en em
  obtain ⟨⟨mo, ca, ad, es⟩, kn, bl, op⟩ := e
  unfold eV at *
  simp only at *
  go_enter Try.func3, Try.ntmps3
  go_wp2_with (go_at_call 4; refine H.out.1.mono ?_; rintro x w2 ⟨rfl, b2⟩; have H2 : Hid _ := And.intro (H.out.2.next b2) True.intro; clear b2)
  go_ret
  exact ⟨rfl, After.below H2.out.1⟩
set_option maxHeartbeats 4000000 in
theorem enc_law (e : EN) (s q : Value) (w : World) (hs : GRow 2 w s (SField.L e.t.es)) (hq : GRow 3 w q (SRef.L e.op)) (hf : fin e.t.es) (ho : e.tot ≤ 1048576) :
    Calls Try.prog 3 #[eV e s q] w fun x w' => x = .returned (.bool true) ∧ Below w.heap.size w w' := by
  have tn := txs_nn e.t.es
  have hn : e.t.es.length ≤ 1048576 := by unfold EN.tot at ho; omega
  have hm : e.op.length ≤ 1048576 := by unfold EN.tot at ho; omega
  have ht : txs e.t.es ≤ 1048576 := by unfold EN.tot at ho; omega
  have A0 := After.new w (.cells #[.int .i64 e.t.mo, .int .i64 e.t.ca, .int .i64 e.t.ad, s, .int .i64 e.kn, .int .i64 e.bl, q] 27)
  have C := szEnc e s q (1048576 - e.tot) _ (hs.below (After.below A0)) (hq.below (After.below A0)) (by omega) (by omega) hf (by rw [if_pos ho])
  have DT : ∀ u, Below w.heap.size w u → Calls Try.prog 6 #[eV e s q] u fun x w' => ∃ r r', x = .returned (eV e r r') ∧ GOwns 53 2 w' u.heap.size r (SField.L e.t.es) ∧ GOwns 43 3 w' u.heap.size r' (SRef.L e.op) ∧ Below u.heap.size u w' := fun u hb => toEnc e s q u (hs.below hb) (hq.below hb) hn hm
  have DS : ∀ u r r', GRow 2 u r (SField.L e.t.es) → GRow 3 u r' (SRef.L e.op) → _ := fun u r r' h1 h2 => eokS e r r' u h1 h2 hn ht hm
  have DI : ∀ u r r', GRow 2 u r (SField.L e.t.es) → GRow 3 u r' (SRef.L e.op) → _ := fun u r r' h1 h2 => eokI e r r' u h1 h2 hn ht hm
  have DE : ∀ u r r' r2 r2', GRow 2 u r (SField.L e.t.es) → GRow 2 u r2 (SField.L e.t.es) → GRow 3 u r' (SRef.L e.op) → GRow 3 u r2' (SRef.L e.op) → _ := fun u r r' r2 r2' h1 h2 h3 h4 => eqEnc e r r2 r' r2' u h1 h2 h3 h4 hn hm
  obtain ⟨R, eR⟩ : ∃ R, R = 1048576 - e.tot := ⟨_, rfl⟩
  have r0 : 0 ≤ R := by omega
  rw [← eR] at C
  obtain ⟨K, eK⟩ : ∃ K, K = eOK e := ⟨_, rfl⟩
  rw [← eK] at DS DI
  have FF : Hid (∀ (u : World) (b : Nat) (r : Value), GOwns 53 2 u b r (SField.L e.t.es) → ∃ ao cp, r = .slice ao e.t.es.length cp) := fun u b r ho => frow_form ho.row
  have FR : Hid (∀ (u : World) (b : Nat) (r : Value), GOwns 43 3 u b r (SRef.L e.op) → ∃ ao cp, r = .slice ao e.op.length cp) := fun u b r ho => rrow_form ho.row
  obtain ⟨sa, sc, rfl⟩ := frow_form hs
  obtain ⟨qa, qc, rfl⟩ := rrow_form hq
  obtain ⟨n, en⟩ : ∃ n, n = e.t.es.length := ⟨_, rfl⟩
  obtain ⟨m, em⟩ : ∃ m, m = e.op.length := ⟨_, rfl⟩
  have H : Hid _ := And.intro C (And.intro A0 (And.intro DT (And.intro DS (And.intro DI DE))))
  rw [← en, ← em] at H ⊢
  rw [← en] at FF
  rw [← em] at FR
  clear C A0 DT DS DI DE hs hq hf ho hn ht hm tn eR eK en em
  have hk : (K != K) = false := by simp
  obtain ⟨⟨mo, ca, ad, es⟩, kn, bl, op⟩ := e
  unfold eV at *
  simp only at *
  go_enter Try.func3, Try.ntmps3
  go_wp2_with fail
  go_at_call 4
  refine H.out.1.mono ?_
  rintro x w1 ⟨rfl, b1⟩
  have A1 := H.out.2.1.next b1
  obtain ⟨d0, d1, d2, d3, d4, d5, d6⟩ := A1.cells7
  have H1 : Hid _ := And.intro A1 True.intro
  clear A1 b1
  go_wp2_with fail
  go_at_call 6
  refine (H.out.2.2.1 w1 (After.below H1.out.1)).mono ?_
  rintro x w2 ⟨r2, s2, rfl, o2, p2, b2⟩
  obtain ⟨ra2, rc2, er2⟩ := FF.out _ _ _ o2
  obtain ⟨rb2, rd2, es2⟩ := FR.out _ _ _ p2
  subst er2 es2
  have H2 : Hid _ := And.intro (H1.out.1.next b2) (And.intro o2.row p2.row)
  clear b2 o2 p2 d0 d1 d2 d3 d4 d5 d6
  go_wp2_with fail
  go_at_call 5
  refine (H.out.2.2.2.1 w2 _ _ H2.out.2.1 H2.out.2.2).mono ?_
  rintro x w3 ⟨rfl, b3⟩
  have A3 := H2.out.1.next b3
  obtain ⟨d0, d1, d2, d3, d4, d5, d6⟩ := A3.cells7
  have H3 : Hid _ := And.intro A3 True.intro
  clear A3 b3
  go_wp2_with fail
  go_at_call 6
  refine (H.out.2.2.1 w3 (After.below H3.out.1)).mono ?_
  rintro x w4 ⟨r4, s4, rfl, o4, p4, b4⟩
  obtain ⟨ra4, rc4, er4⟩ := FF.out _ _ _ o4
  obtain ⟨rb4, rd4, es4⟩ := FR.out _ _ _ p4
  subst er4 es4
  have A5 := (H3.out.1.next b4).next ((Below.refl w4.heap.size w4).alloc (Nat.le_refl _) (.cells #[.int .i64 mo, .int .i64 ca, .int .i64 ad, .slice ra4 n rc4, .int .i64 kn, .int .i64 bl, .slice rb4 m rd4] 35))
  have N5 := After.new w4 (.cells #[.int .i64 mo, .int .i64 ca, .int .i64 ad, .slice ra4 n rc4, .int .i64 kn, .int .i64 bl, .slice rb4 m rd4] 35)
  have H5 : Hid _ := And.intro A5 (And.intro N5 (And.intro (o4.row.below ((Below.refl w4.heap.size w4).alloc (Nat.le_refl _) (.cells #[.int .i64 mo, .int .i64 ca, .int .i64 ad, .slice ra4 n rc4, .int .i64 kn, .int .i64 bl, .slice rb4 m rd4] 35))) (p4.row.below ((Below.refl w4.heap.size w4).alloc (Nat.le_refl _) (.cells #[.int .i64 mo, .int .i64 ca, .int .i64 ad, .slice ra4 n rc4, .int .i64 kn, .int .i64 bl, .slice rb4 m rd4] 35)))))
  clear b4 o4 p4 A5 N5 d0 d1 d2 d3 d4 d5 d6
  go_wp2_with fail
  go_at_call 7
  refine (H.out.2.2.2.2.1 _ _ _ H5.out.2.2.1 H5.out.2.2.2).mono ?_
  rintro x w6 ⟨rfl, b6⟩
  have A6 := (H5.out.1.next b6).next (drew_below w6)
  have N6 := (H5.out.2.1.next b6).next (drew_below w6)
  obtain ⟨d0, d1, d2, d3, d4, d5, d6⟩ := A6.cells7
  obtain ⟨e0, e1, e2, e3, e4, e5, e6⟩ := N6.cells7
  have H6 : Hid _ := And.intro A6 (And.intro N6 (And.intro ((H5.out.2.2.1.below b6).below (drew_below w6)) ((H5.out.2.2.2.below b6).below (drew_below w6))))
  clear A6 N6 b6
  go_wp2_with fail
  go_region_with (first
    | (go_at_call 6; refine (H.out.2.2.1 w6.drew (After.below H6.out.1)).mono ?_; rintro x w7 ⟨r7, s7, rfl, o7, p7, b7⟩; obtain ⟨ra7, rc7, er7⟩ := FF.out _ _ _ o7; obtain ⟨rb7, rd7, es7⟩ := FR.out _ _ _ p7; subst er7 es7; obtain ⟨g0, g1, g2, g3, g4, g5, g6⟩ := (H6.out.2.1.next b7).cells7; have H7 : Hid _ := And.intro (H6.out.1.next b7) (And.intro o7.row (And.intro p7.row (And.intro (H6.out.2.2.1.below b7) (H6.out.2.2.2.below b7)))); clear b7 o7 p7)
    | (go_at_call 8; refine (H.out.2.2.2.2.2 _ _ _ _ _ H7.out.2.2.2.1 H7.out.2.1 H7.out.2.2.2.2 H7.out.2.2.1).mono ?_; rintro x w8 ⟨rfl, b8⟩; have H8 : Hid _ := And.intro (After.below (H7.out.1.next b8)) True.intro; clear b8))
  all_goals
    go_wp2
    go_ret
    exact ⟨rfl, H8.out.1⟩
theorem fnExactEncoderOK_walk (e : EN) (s q : Value) (hl : e.t.es.length ≤ maxLen) (hl2 : e.op.length ≤ maxLen) (hf : fin e.t.es) (w : World) (hs : GRow 2 w s (SField.L e.t.es)) (hq : GRow 3 w q (SRef.L e.op)) :
    Calls Try.prog 3 #[eV e s q] w fun x w' => x = .returned (.bool true) ∧ Below w.heap.size w w' := by
  by_cases ho : e.tot ≤ 1048576
  · exact enc_law e s q w hs hq hf ho
  · exact enc_huge e s q w hs hq (by unfold maxLen at hl; omega) (by unfold maxLen at hl2; omega) hf (by omega)
end Go.Proofs.Ytmaoajadcgoopaa
