import Derived.Test.YtabnicgbcedddaaTbI
import Derived.Test.YtabnicgbcedddaaTbT
import Derived.Deep.RegionWith
namespace Go.Proofs.Ytabnicgbcedddaa
open Go.RowKit
set_option linter.unusedVariables false

/-- The world behind the boxing of a table, and what comes later. -/
def After (w : World) (o : Obj) (w1 : World) : Prop := Below (w.heap.size + 1) (w.alloc o) w1
theorem After.next {w w1 w2 : World} {o : Obj} (h : After w o w1) (hb : Below w1.heap.size w1 w2) : After w o w2 :=
  Below.trans h (hb.mono (by have := Below.size h; simpa using this))
theorem After.below {w w1 : World} {o : Obj} (h : After w o w1) : Below w.heap.size w w1 := tb_below h
theorem After.new (w : World) (o : Obj) : After w o (w.alloc o) := Below.refl _ _
theorem After.cells {w w1 : World} {mo ca ad : Int} {s : Value} {t : TypeId} (h : After w (.cells #[.int .i64 mo, .int .i64 ca, .int .i64 ad, s] t) w1) :
    w1.cell? ⟨w.heap.size, 0, none⟩ = some (.int .i64 mo) ∧ w1.cell? ⟨w.heap.size, 1, none⟩ = some (.int .i64 ca) ∧ w1.cell? ⟨w.heap.size, 2, none⟩ = some (.int .i64 ad) ∧ w1.cell? ⟨w.heap.size, 3, none⟩ = some s := tb_cells h
theorem drew_below (w : World) : Below w.heap.size w w.drew := below_drewN (Below.refl _ _) 1
theorem tok_huge (t : TB) (s : Value) (w : World) (h : GRow 2 w s (SField.L t.es)) (hm : t.es.length ≤ 9223372036854775807) (hf : fin t.es) (ho : 1048576 < (t.es.length : Int) + txs t.es) :
    Calls Try.prog 3 #[tV t s] w fun e w' => e = .returned (.bool true) ∧ Below w.heap.size w w' := by
  have b0 : Below w.heap.size w (w.alloc (.cells #[.int .i64 t.mo, .int .i64 t.ca, .int .i64 t.ad, s] 24)) := (Below.refl _ _).alloc (Nat.le_refl _) _
  have C := szTab t s 1048576 (-1) _ (h.below b0) hm (by decide) (by decide) hf (by rw [if_neg (by omega)])
  obtain ⟨ao, cp, rfl⟩ := frow_form h
  obtain ⟨n, en⟩ : ∃ n, n = t.es.length := ⟨_, rfl⟩
  rw [← en] at C b0 ⊢
  have H : Hid _ := And.intro C b0
  clear C b0 h hm hf ho en
  unfold tV at *
  obtain ⟨mo, ca, ad, es⟩ := t
  go_enter Try.func3, Try.ntmps3
  go_wp2_with (go_at_call 7; refine H.out.1.mono ?_; rintro e w2 ⟨rfl, b2⟩; have H2 : Hid _ := And.intro (H.out.2.trans (b2.mono H.out.2.size)) True.intro; clear b2)
  go_ret
  exact ⟨rfl, H2.out.1⟩
set_option maxHeartbeats 4000000 in
theorem tok_law (t : TB) (s : Value) (w : World) (h : GRow 2 w s (SField.L t.es)) (hf : fin t.es) (ho : (t.es.length : Int) + txs t.es ≤ 1048576) :
    Calls Try.prog 3 #[tV t s] w fun e w' => e = .returned (.bool true) ∧ Below w.heap.size w w' := by
  have hn : t.es.length ≤ 1048576 := by have := txs_nn t.es; omega
  have ht : txs t.es ≤ 1048576 := by omega
  have A0 := After.new w (.cells #[.int .i64 t.mo, .int .i64 t.ca, .int .i64 t.ad, s] 24)
  have C := szTab t s 1048576 (1048576 - (t.es.length + txs t.es)) _ (h.below A0.below) (by omega) (by decide) (by decide) hf (by rw [if_pos (by omega)])
  have DT : ∀ u, Below w.heap.size w u → Calls Try.prog 9 #[tV t s] u fun e w' => ∃ r, e = .returned (tV t r) ∧ GOwns 41 2 w' u.heap.size r (SField.L t.es) ∧ Below u.heap.size u w' := fun u hb => toTab t s u (h.below hb) hn
  have DS : ∀ u r, GRow 2 u r (SField.L t.es) → _ := fun u r hr => tokS t r u hr hn ht
  have DI : ∀ u r, GRow 2 u r (SField.L t.es) → _ := fun u r hr => tokI t r u hr hn ht
  have DE : ∀ u r r', GRow 2 u r (SField.L t.es) → GRow 2 u r' (SField.L t.es) → _ := fun u r r' h1 h2 => eqTab t r r' u h1 h2 hn
  obtain ⟨R, eR⟩ : ∃ R, R = 1048576 - ((t.es.length : Int) + txs t.es) := ⟨_, rfl⟩
  have r0 : 0 ≤ R := by omega
  rw [← eR] at C
  obtain ⟨K, eK⟩ : ∃ K, K = tOK t := ⟨_, rfl⟩
  rw [← eK] at DS DI
  have FF : Hid (∀ (u : World) (b : Nat) (r : Value), GOwns 41 2 u b r (SField.L t.es) → ∃ ao cp, r = .slice ao t.es.length cp) := fun u b r ho => frow_form ho.row
  obtain ⟨ao, cp, rfl⟩ := frow_form h
  obtain ⟨n, en⟩ : ∃ n, n = t.es.length := ⟨_, rfl⟩
  rw [← en] at C A0 DT FF ⊢
  have H : Hid _ := And.intro C (And.intro A0 (And.intro DT (And.intro DS (And.intro DI DE))))
  clear C A0 DT DS DI DE h hf ho hn ht eR eK en
  have hk : (K != K) = false := by simp
  unfold tV at *
  obtain ⟨mo, ca, ad, es⟩ := t
  simp only at *
  go_enter Try.func3, Try.ntmps3
  go_wp2_with fail
  go_at_call 7
  refine H.out.1.mono ?_
  rintro e w1 ⟨rfl, b1⟩
  have A1 := H.out.2.1.next b1
  obtain ⟨d0, d1, d2, d3⟩ := A1.cells
  have H1 : Hid _ := And.intro A1 True.intro
  clear A1 b1
  go_wp2_with fail
  go_at_call 9
  refine (H.out.2.2.1 w1 (After.below H1.out.1)).mono ?_
  rintro e w2 ⟨r2, rfl, o2, b2⟩
  obtain ⟨ra2, rc2, er2⟩ := FF.out _ _ _ o2
  subst er2
  have H2 : Hid _ := And.intro (H1.out.1.next b2) o2.row
  clear b2 o2 d0 d1 d2 d3
  go_wp2_with fail
  go_at_call 8
  refine (H.out.2.2.2.1 w2 _ H2.out.2).mono ?_
  rintro e w3 ⟨rfl, b3⟩
  have A3 := H2.out.1.next b3
  obtain ⟨d0, d1, d2, d3⟩ := A3.cells
  have H3 : Hid _ := And.intro A3 True.intro
  clear A3 b3
  go_wp2_with fail
  go_at_call 9
  refine (H.out.2.2.1 w3 (After.below H3.out.1)).mono ?_
  rintro e w4 ⟨r4, rfl, o4, b4⟩
  obtain ⟨ra4, rc4, er4⟩ := FF.out _ _ _ o4
  subst er4
  have A5 := (H3.out.1.next b4).next ((Below.refl w4.heap.size w4).alloc (Nat.le_refl _) (.cells #[.int .i64 mo, .int .i64 ca, .int .i64 ad, .slice ra4 n rc4] 29))
  have N5 := After.new w4 (.cells #[.int .i64 mo, .int .i64 ca, .int .i64 ad, .slice ra4 n rc4] 29)
  have H5 : Hid _ := And.intro A5 (And.intro N5 (o4.row.below ((Below.refl w4.heap.size w4).alloc (Nat.le_refl _) (.cells #[.int .i64 mo, .int .i64 ca, .int .i64 ad, .slice ra4 n rc4] 29))))
  clear b4 o4 A5 N5 d0 d1 d2 d3
  go_wp2_with fail
  go_at_call 10
  refine (H.out.2.2.2.2.1 _ _ H5.out.2.2).mono ?_
  rintro e w6 ⟨rfl, b6⟩
  have A6 := (H5.out.1.next b6).next (drew_below w6)
  have N6 := (H5.out.2.1.next b6).next (drew_below w6)
  obtain ⟨d0, d1, d2, d3⟩ := A6.cells
  obtain ⟨e0, e1, e2, e3⟩ := N6.cells
  have H6 : Hid _ := And.intro A6 (And.intro N6 ((H5.out.2.2.below b6).below (drew_below w6)))
  clear A6 N6 b6
  go_wp2_with fail
  go_region_with (first
    | (go_at_call 9; refine (H.out.2.2.1 w6.drew (After.below H6.out.1)).mono ?_; rintro e w7 ⟨r7, rfl, o7, b7⟩; obtain ⟨ra7, rc7, er7⟩ := FF.out _ _ _ o7; subst er7; obtain ⟨e0', e1', e2', e3'⟩ := (H6.out.2.1.next b7).cells; have H7 : Hid _ := And.intro (H6.out.1.next b7) (And.intro o7.row (H6.out.2.2.below b7)); clear b7 o7)
    | (go_at_call 11; refine (H.out.2.2.2.2.2 _ _ _ H7.out.2.2 H7.out.2.1).mono ?_; rintro e w8 ⟨rfl, b8⟩; have H8 : Hid _ := And.intro (After.below (H7.out.1.next b8)) True.intro; clear b8))
  all_goals
    go_wp2
    go_ret
    exact ⟨rfl, H8.out.1⟩
theorem fnExactTableOK_walk (t : TB) (s : Value) (hl : t.es.length ≤ maxLen) (hf : fin t.es) (w : World) (h : GRow 2 w s (SField.L t.es)) :
    Calls Try.prog 3 #[tV t s] w fun e w' => e = .returned (.bool true) ∧ Below w.heap.size w w' := by
  by_cases ho : (t.es.length : Int) + txs t.es ≤ 1048576
  · exact tok_law t s w h hf ho
  · exact tok_huge t s w h (by unfold maxLen at hl; omega) hf (by omega)
end Go.Proofs.Ytabnicgbcedddaa
