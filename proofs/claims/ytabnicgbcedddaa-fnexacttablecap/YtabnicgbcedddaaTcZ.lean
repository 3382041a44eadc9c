import Derived.Test.YtabnicgbcedddaaTcN
import Derived.Test.YtabnicgbcedddaaTgL
namespace Go.Proofs.Ytabnicgbcedddaa
open Go.RowKit
set_option linter.unusedVariables false

theorem tc_huge (t : TB) (s : Value) (i : Int) (w : World) (h : GRow 2 w s (SField.L t.es)) (hm : t.es.length ≤ 9223372036854775807) (hf : fin t.es) (ho : 1048576 < (t.es.length : Int) + txs t.es) :
    Calls Try.prog 4 #[tV t s, .int .i64 i] w fun e w' => e = .returned (.bool true) ∧ Below w.heap.size w w' := by
  have b0 : Below w.heap.size w (w.alloc (.cells #[.int .i64 t.mo, .int .i64 t.ca, .int .i64 t.ad, s] 24)) := (Below.refl _ _).alloc (Nat.le_refl _) _
  have C := szTab t s 1048576 (-1) _ (h.below b0) hm (by decide) (by decide) hf (by rw [if_neg (by omega)])
  obtain ⟨ao, cp, rfl⟩ := frow_form h
  obtain ⟨n, en⟩ : ∃ n, n = t.es.length := ⟨_, rfl⟩
  rw [← en] at C b0 ⊢
  have H : Hid _ := And.intro C b0
  clear C b0 h hm hf ho en
  unfold tV at *
  obtain ⟨mo, ca, ad, es⟩ := t
  go_enter Try.func4, Try.ntmps4
  go_wp2_with (go_at_call 7; refine H.out.1.mono ?_; rintro e w2 ⟨rfl, b2⟩; have H2 : Hid _ := And.intro (H.out.2.trans (b2.mono H.out.2.size)) True.intro; clear b2)
  go_ret
  exact ⟨rfl, H2.out.1⟩
theorem tcR_len (t : TB) (x : Int) : (tcR t x).1.es.length ≤ t.es.length := by
  unfold tcR
  split
  · simp
  · split <;> simp
set_option maxRecDepth 20000 in
set_option maxHeartbeats 8000000 in
theorem tc_law (t : TB) (s : Value) (i : Int) (w : World) (h : GRow 2 w s (SField.L t.es)) (hf : fin t.es) (ho : (t.es.length : Int) + txs t.es ≤ 1048576) :
    Calls Try.prog 4 #[tV t s, .int .i64 i] w fun e w' => e = .returned (.bool true) ∧ Below w.heap.size w w' := by
  have hn : t.es.length ≤ 1048576 := by have := txs_nn t.es; omega
  have ht : txs t.es ≤ 1048576 := by omega
  have A0 := After.new w (.cells #[.int .i64 t.mo, .int .i64 t.ca, .int .i64 t.ad, s] 24)
  have C := szTab t s 1048576 (1048576 - (t.es.length + txs t.es)) _ (h.below A0.below) (by omega) (by decide) (by decide) hf (by rw [if_pos (by omega)])
  have DT : ∀ u, Below w.heap.size w u → Calls Try.prog 9 #[tV t s] u fun e w' => ∃ r, e = .returned (tV t r) ∧ GOwns 41 2 w' u.heap.size r (SField.L t.es) ∧ Below u.heap.size u w' := fun u hb => toTab t s u (h.below hb) hn
  have DS : ∀ u r, GRow 2 u r (SField.L t.es) → _ := fun u r hr => tcS t r i u hr hn ht
  have DI : ∀ u r, GRow 2 u r (SField.L t.es) → _ := fun u r hr => tcI t r i u hr hn ht
  have DE : ∀ u r r', GRow 2 u r (SField.L t.es) → GRow 2 u r' (SField.L t.es) → _ := fun u r r' h1 h2 => eqTab t r r' u h1 h2 hn
  have hnX : (tcR t i).1.es.length ≤ 1048576 := by have := tcR_len t i; omega
  obtain ⟨R, eR⟩ : ∃ R, R = 1048576 - ((t.es.length : Int) + txs t.es) := ⟨_, rfl⟩
  have r0 : 0 ≤ R := by omega
  rw [← eR] at C
  obtain ⟨K, eK⟩ : ∃ K, K = tcR t i := ⟨_, rfl⟩
  rw [← eK] at DS DI hnX
  obtain ⟨X, code⟩ := K
  simp only at DS DI hnX
  have DX : ∀ u r r', GRow 2 u r (SField.L X.es) → GRow 2 u r' (SField.L X.es) → _ := fun u r r' h1 h2 => eqTab X r r' u h1 h2 hnX
  have DM4 : ∀ (u : World) (r : Value) (b : Nat), GOwns 41 2 u b r (SField.L t.es) → _ := fun u r b o => markTab t r b u o hn
  have DM6 : ∀ (u : World) (r : Value) (b : Nat), GOwns 41 2 u b r (SField.L X.es) → _ := fun u r b o => markTab X r b u o hnX
  have DH : ∀ (u : World) (r : Value) (b : Nat) (P : List SField), GOwns 41 2 u b r (SField.L P) → MP P 1 X.es.length X.es.length → _ := fun u r b P o hP => heldTab X r P X.es.length b u o hP hnX
  have FF : Hid (∀ (u : World) (b : Nat) (r : Value), GOwns 41 2 u b r (SField.L t.es) → ∃ ao cp, r = .slice ao t.es.length cp) := fun u b r ho => frow_form ho.row
  have FX : Hid (∀ (u : World) (b : Nat) (r : Value), GOwns 41 2 u b r (SField.L X.es) → ∃ ao cp, r = .slice ao X.es.length cp) := fun u b r ho => frow_form ho.row
  obtain ⟨ao, cp, rfl⟩ := frow_form h
  obtain ⟨n, en⟩ : ∃ n, n = t.es.length := ⟨_, rfl⟩
  obtain ⟨m, em⟩ : ∃ m, m = X.es.length := ⟨_, rfl⟩
  have H : Hid _ := And.intro C (And.intro A0 (And.intro DT (And.intro DS (And.intro DI (And.intro DE DX)))))
  have G : Hid _ := And.intro DM4 (And.intro DM6 DH)
  rw [← en] at H FF G ⊢
  rw [← em] at FX G
  clear C A0 DT DS DI DE DX DM4 DM6 DH h hf ho hn ht eR eK en hnX em
  have hk : (code != code) = false := by simp
  obtain ⟨k4, e4⟩ : ∃ k4 : Int, k4 = 1 + 2 * (n : Int) := ⟨_, rfl⟩
  obtain ⟨k6, e6⟩ : ∃ k6 : Int, k6 = 1 + 2 * (m : Int) := ⟨_, rfl⟩
  have p4 : 0 ≤ k4 := by omega
  have p6 : 0 ≤ k6 := by omega
  have q6 : (k6 != k6) = false := by simp
  rw [← e4, ← e6] at G
  clear e4 e6
  unfold tV at *
  obtain ⟨mo, ca, ad, es⟩ := t
  obtain ⟨xm, xc, xa, xe⟩ := X
  simp only at *
  go_enter Try.func4, Try.ntmps4
  go_wp2_with fail
  go_at_call 7
  refine H.out.1.mono ?_
  rintro e w1 ⟨rfl, b1⟩
  have A1 := H.out.2.1.next b1
  obtain ⟨d0, d1, d2, d3⟩ := A1.cells
  have H1 : Hid _ := And.intro A1 True.intro
  clear A1 b1
  go_wp2_with fail
  go_at_call 9
  refine (H.out.2.2.1 w1 (After.below H1.out.1)).mono ?_
  rintro e w2 ⟨r2, rfl, o2, b2⟩
  obtain ⟨ra2, rc2, er2⟩ := FF.out _ _ _ o2
  subst er2
  have H2 : Hid _ := And.intro (H1.out.1.next b2) o2.row
  clear b2 o2 d0 d1 d2 d3
  go_wp2_with fail
  go_at_call 12
  refine (H.out.2.2.2.1 w2 _ H2.out.2).mono ?_
  rintro e w3 ⟨r3, rfl, o3, b3⟩
  obtain ⟨ra3, rc3, er3⟩ := FX.out _ _ _ o3
  subst er3
  have a3 := (Below.refl w3.heap.size w3).alloc (Nat.le_refl _) (.cells #[.int .i64 xm, .int .i64 xc, .int .i64 xa, .slice ra3 m rc3] 29)
  have A3 := (H2.out.1.next b3).next a3
  have N3 := After.new w3 (.cells #[.int .i64 xm, .int .i64 xc, .int .i64 xa, .slice ra3 m rc3] 29)
  obtain ⟨d0, d1, d2, d3⟩ := A3.cells
  have z2 : w.heap.size + 1 ≤ w2.heap.size := by have := Below.size H2.out.1; simpa using this
  have zz : w.heap.size < w3.heap.size := by have := b3.size; omega
  obtain ⟨g0, g1, g2, g3⟩ := (H2.out.1.next b3).cells
  have i3 := fun k hk => (o3.ltF k hk).2
  have H3 : Hid _ := And.intro A3 (And.intro N3 (And.intro ((o3.mono z2).below a3) i3))
  clear A3 b3 a3 N3 o3 i3
  go_wp2_with fail
  go_at_call 9
  refine (H.out.2.2.1 _ (After.below H3.out.1)).mono ?_
  rintro e w4 ⟨r4, rfl, o4, b4⟩
  obtain ⟨ra4, rc4, er4⟩ := FF.out _ _ _ o4
  subst er4
  have a4 := (Below.refl w4.heap.size w4).alloc (Nat.le_refl _) (.cells #[.int .i64 mo, .int .i64 ca, .int .i64 ad, .slice ra4 n rc4] 29)
  have A5 := (H3.out.1.next b4).next a4
  have N5 := (H3.out.2.1.next b4).next a4
  have M5 := After.new w4 (.cells #[.int .i64 mo, .int .i64 ca, .int .i64 ad, .slice ra4 n rc4] 29)
  have i4 := fun k hk => (o4.ltF k hk).2
  have z3 : w3.heap.size + 1 ≤ w4.heap.size := by have := b4.size; simpa using this
  have o4' := o4.mono (base' := w3.heap.size + 1) (by simp)
  have H5 : Hid _ := And.intro A5 (And.intro N5 (And.intro M5 (And.intro (o4'.below a4) (And.intro ((H3.out.2.2.1.below b4).below a4) i4))))
  clear b4 o4 o4' A5 N5 M5 a4 i4 d0 d1 d2 d3 g0 g1 g2 g3
  go_wp2_with fail
  go_at_call 13
  refine (H.out.2.2.2.2.1 _ _ H5.out.2.2.2.1.row).mono ?_
  rintro e w6 ⟨r6, rfl, o6, b6⟩
  obtain ⟨ra6, rc6, er6⟩ := FX.out _ _ _ o6
  subst er6
  have a6 := (Below.refl w6.heap.size w6).alloc (Nat.le_refl _) (.cells #[.int .i64 xm, .int .i64 xc, .int .i64 xa, .slice ra6 m rc6] 29)
  have A6 := H5.out.1.next b6
  have N6 := H5.out.2.1.next b6
  have M6 := H5.out.2.2.1.next b6
  have kk2 := (Below.block (A6.next a6) w.heap.size (by omega)).trans (MapKept.heap_alloc w (.cells #[.int .i64 mo, .int .i64 ca, .int .i64 ad, .slice ao n cp] 24)).1
  have kk6 := (Below.block (N6.next a6) w3.heap.size (by omega)).trans (MapKept.heap_alloc w3 (.cells #[.int .i64 xm, .int .i64 xc, .int .i64 xa, .slice ra3 m rc3] 29)).1
  have kk8 := (Below.block (M6.next a6) w4.heap.size (by omega)).trans (MapKept.heap_alloc w4 (.cells #[.int .i64 mo, .int .i64 ca, .int .i64 ad, .slice ra4 n rc4] 29)).1
  have kk9 := (MapKept.heap_alloc w6 (.cells #[.int .i64 xm, .int .i64 xc, .int .i64 xa, .slice ra6 m rc6] 29)).1
  have z4 : w4.heap.size + 1 ≤ w6.heap.size := by have := b6.size; simpa using this
  have LL : LS w (w6.alloc (.cells #[.int .i64 xm, .int .i64 xc, .int .i64 xa, .slice ra6 m rc6] 29)) w3.heap.size w4.heap.size w6.heap.size ⟨mo, ca, ad, es⟩ ⟨xm, xc, xa, xe⟩ (.slice ao n cp) (.slice ra3 m rc3) (.slice ra4 n rc4) (.slice ra6 m rc6) es xe :=
    ⟨kk2, kk6, kk8, kk9, (H5.out.2.2.2.2.1.below b6).below a6, (H5.out.2.2.2.1.below b6).below a6, (o6.mono (by simp)).below a6, H3.out.2.2.2, H5.out.2.2.2.2.2, fun k hk => (o6.ltF k hk).2, ⟨zz, by omega, by omega⟩, After.below (A6.next a6)⟩
  obtain ⟨q0, q1, q2, q3⟩ := N6.cells
  have z5 : w3.heap.size < w6.heap.size := by omega
  have HL : Hid _ := And.intro LL True.intro
  clear LL kk2 kk6 kk8 kk9 A6 N6 M6 a6 b6 o6
  go_wp2_with fail
  go_at_call 11
  refine (H.out.2.2.2.2.2.2 _ _ _ HL.out.1.o6.row HL.out.1.o3.row).mono ?_
  rintro e w7 ⟨rfl, b7⟩
  have L7 := (HL.out.1.next b7).next (drew_below w7)
  clear b7 q0 q1 q2 q3
  obtain ⟨d0, d1, d2, d3⟩ := tb4 L7.k2
  obtain ⟨e0, e1, e2, e3⟩ := tb4 L7.k8
  have H7 : Hid _ := And.intro L7 True.intro
  clear L7
  simp only at d0 d1 d2 d3 e0 e1 e2 e3
  go_wp2_with fail
  go_cut [49] from 45 to 49 (fun b wx => b = .bool false ∧ LS w wx w3.heap.size w4.heap.size w6.heap.size ⟨mo, ca, ad, es⟩ ⟨xm, xc, xa, xe⟩ (.slice ao n cp) (.slice ra3 m rc3) (.slice ra4 n rc4) (.slice ra6 m rc6) es xe)
  case first =>
    go_region_with (first
      | (go_at_call 9; refine (H.out.2.2.1 w7.drew H7.out.1.bw).mono ?_; rintro e w8 ⟨r8, rfl, o8, b8⟩; obtain ⟨ra8, rc8, er8⟩ := FF.out _ _ _ o8; subst er8; obtain ⟨e0', e1', e2', e3'⟩ := tb4 (H7.out.1.next b8).k8; simp only at e0' e1' e2' e3'; have H8 : Hid _ := And.intro (H7.out.1.next b8) o8.row; clear b8 o8)
      | (go_at_call 11; refine (H.out.2.2.2.2.2.1 _ _ _ H8.out.1.o4.row H8.out.2).mono ?_; rintro e w9 ⟨rfl, b9⟩; have H9 : Hid _ := And.intro (H8.out.1.next b9) True.intro; clear b9))
    all_goals
      go_simp
      go_wp2_with fail
      go_meet
      exact ⟨rfl, H9.out.1⟩
  case rest =>
    obtain ⟨rfl, hl⟩ := hcut
    rename World => wx
    clear d0 d1 d2 d3 e0 e1 e2 e3
    obtain ⟨e0, e1, e2, e3⟩ := tb4 hl.k8
    simp only at e0 e1 e2 e3
    have H9 : Hid _ := And.intro hl True.intro
    clear hl
    go_wp2_with fail
    go_at_call 14
    refine (G.out.1 _ _ _ H9.out.1.o4).mono ?_
    rintro e w10 ⟨rfl, ⟨P4, mp4, o10⟩, c10⟩
    have L10 := H9.out.1.mark4 c10 o10
    clear c10 o10 mp4 e0 e1 e2 e3
    obtain ⟨d0, d1, d2, d3⟩ := tb4 L10.k6
    obtain ⟨e0, e1, e2, e3⟩ := tb4 L10.k9
    simp only at d0 d1 d2 d3 e0 e1 e2 e3
    have H10 : Hid _ := And.intro L10 True.intro
    clear L10
    go_wp2_with fail
    go_at_call 11
    refine (H.out.2.2.2.2.2.2 _ _ _ H10.out.1.o6.row H10.out.1.o3.row).mono ?_
    rintro e w11 ⟨rfl, b11⟩
    have L11 := H10.out.1.next b11
    clear b11 d0 d1 d2 d3 e0 e1 e2 e3
    obtain ⟨e0, e1, e2, e3⟩ := tb4 L11.k9
    simp only at e0 e1 e2 e3
    have H11 : Hid _ := And.intro L11 True.intro
    clear L11
    go_wp2_with fail
    go_at_call 14
    refine (G.out.2.1 _ _ _ H11.out.1.o6).mono ?_
    rintro e w12 ⟨rfl, ⟨P6, mp6, o12⟩, c12⟩
    have L12 := H11.out.1.mark6 c12 o12
    clear c12 o12 e0 e1 e2 e3
    obtain ⟨e0, e1, e2, e3⟩ := tb4 L12.k9
    simp only at e0 e1 e2 e3
    have H12 : Hid _ := And.intro L12 mp6
    clear L12 mp6
    go_wp2_with fail
    go_at_call 15
    refine (G.out.2.2 _ _ _ _ H12.out.1.o6 H12.out.2).mono ?_
    rintro e w13 ⟨rfl, b13⟩
    have L13 := H12.out.1.next b13
    clear b13 e0 e1 e2 e3
    obtain ⟨d0, d1, d2, d3⟩ := tb4 L13.k2
    simp only at d0 d1 d2 d3
    have H13 : Hid _ := And.intro L13 True.intro
    clear L13
    go_wp2_with fail
    go_at_call 9
    refine (H.out.2.2.1 _ H13.out.1.bw).mono ?_
    rintro e w14 ⟨r14, rfl, o14, b14⟩
    obtain ⟨ra14, rc14, er14⟩ := FF.out _ _ _ o14
    subst er14
    have H14 : Hid _ := And.intro (H13.out.1.next b14) o14.row
    clear b14 o14 d0 d1 d2 d3
    go_wp2_with fail
    go_at_call 13
    refine (H.out.2.2.2.2.1 _ _ H14.out.2).mono ?_
    rintro e w15 ⟨r15, rfl, o15, b15⟩
    obtain ⟨ra15, rc15, er15⟩ := FX.out _ _ _ o15
    subst er15
    have a15 := (Below.refl w15.heap.size w15).alloc (Nat.le_refl _) (.cells #[.int .i64 xm, .int .i64 xc, .int .i64 xa, .slice ra15 m rc15] 29)
    have L15 := H14.out.1.next b15
    obtain ⟨d0, d1, d2, d3⟩ := tb4 L15.k6
    simp only at d0 d1 d2 d3
    have z6 : w3.heap.size < w15.heap.size := (Array.getElem?_eq_some_iff.1 L15.k6).1
    have z7 : w6.heap.size < w15.heap.size := L15.sz
    have H15 : Hid _ := And.intro (L15.next a15) (o15.row.below a15)
    clear L15 b15 o15 a15
    go_wp2_with fail
    go_at_call 11
    refine (H.out.2.2.2.2.2.2 _ _ _ H15.out.2 H15.out.1.o3.row).mono ?_
    rintro e w16 ⟨rfl, b16⟩
    have L16 := H15.out.1.next b16
    clear b16 d0 d1 d2 d3
    obtain ⟨e0, e1, e2, e3⟩ := tb4 L16.k9
    simp only at e0 e1 e2 e3
    have H16 : Hid _ := And.intro L16 True.intro
    clear L16
    go_wp2_with fail
    go_at_call 15
    refine (G.out.2.2 _ _ _ _ H16.out.1.o6 H12.out.2).mono ?_
    rintro e w17 ⟨rfl, b17⟩
    have H17 : Hid _ := And.intro (H16.out.1.next b17).bw True.intro
    clear b17 e0 e1 e2 e3
    go_wp2
    go_ret
    exact ⟨rfl, H17.out.1⟩
theorem fnExactTableCap_walk (t : TB) (s : Value) (i : Int) (hl : t.es.length ≤ maxLen) (hf : fin t.es) (_ : (Lit.int .i64 i).wf = true) (w : World) (h : GRow 2 w s (SField.L t.es)) :
    Calls Try.prog 4 #[tV t s, .int .i64 i] w fun e w' => e = .returned (.bool true) ∧ Below w.heap.size w w' := by
  by_cases ho : (t.es.length : Int) + txs t.es ≤ 1048576
  · exact tc_law t s i w h hf ho
  · exact tc_huge t s i w h (by unfold maxLen at hl; omega) hf (by omega)
end Go.Proofs.Ytabnicgbcedddaa
