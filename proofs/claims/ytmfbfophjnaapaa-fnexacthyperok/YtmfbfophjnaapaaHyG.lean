import Derived.Test.YtmfbfophjnaapaaHyF
namespace Go.Proofs.Ytmfbfophjnaapaa
open Go.RowKit
set_option linter.unusedVariables false

def AfterH (w : World) (o : Obj) (w1 : World) : Prop := Below (w.heap.size + 1) (w.alloc o) w1
theorem AfterH.next {w w1 w2 : World} {o : Obj} (h : AfterH w o w1) (hb : Below w1.heap.size w1 w2) : AfterH w o w2 :=
  Below.trans h (hb.mono (by have := Below.size h; simpa using this))
theorem AfterH.new (w : World) (o : Obj) : AfterH w o (w.alloc o) := Below.refl _ _
theorem AfterH.below {w w1 : World} {o : Obj} (h : AfterH w o w1) : Below w.heap.size w w1 :=
  ((Below.refl w.heap.size w).alloc (Nat.le_refl _) o).trans (Below.mono h (by simp))
theorem drew_belowH (w : World) : Below w.heap.size w w.drew := below_drewN (Below.refl _ _) 1
theorem hyp_huge (f : HF) (d s : Value) (w : World) (hd : Row w .u8 d f.d) (h : GRow 2 w s (SSetting.L f.s)) (hn : f.d.length ≤ 9223372036854775807) (hm : f.s.length ≤ 9223372036854775807) (ho : 1048576 < (f.d.length : Int) + f.s.length) :
    Calls Try.prog 3 #[hV f d s] w fun e w' => e = .returned (.bool true) ∧ Below w.heap.size w w' := by
  have b0 : Below w.heap.size w (w.alloc (.cells #[.int .i64 f.k, .int .i64 f.a, d, s] 25)) := (Below.refl _ _).alloc (Nat.le_refl _) _
  have C := szHF f d s _ (hd.below b0) (h.below b0) hn hm (-1) (by rw [if_neg (by omega)])
  obtain ⟨ao, cp, rfl⟩ := srow_form h
  obtain ⟨bo, cd, rfl⟩ := hd.form
  obtain ⟨n, en⟩ : ∃ n, n = f.d.length := ⟨_, rfl⟩
  obtain ⟨m, em⟩ : ∃ m, m = f.s.length := ⟨_, rfl⟩
  rw [← en, ← em] at C b0 ⊢
  have H : Hid _ := And.intro C b0
  clear C b0 h hd hn hm ho en em
  unfold hV at *
  obtain ⟨k, a, D, S⟩ := f
  simp only at *
  go_enter Try.func3, Try.ntmps3
  go_wp2_with fail
  go_at_call 4
  refine H.out.1.mono ?_
  rintro e w2 ⟨rfl, b2⟩
  have H2 : Hid _ := And.intro (H.out.2.trans (b2.mono H.out.2.size)) True.intro
  clear b2
  go_wp2
  go_ret
  exact ⟨rfl, H2.out.1⟩
set_option maxHeartbeats 4000000 in
theorem hyp_law (f : HF) (d s : Value) (w : World) (hd : Row w .u8 d f.d) (h : GRow 2 w s (SSetting.L f.s)) (ho : (f.d.length : Int) + f.s.length ≤ 1048576) :
    Calls Try.prog 3 #[hV f d s] w fun e w' => e = .returned (.bool true) ∧ Below w.heap.size w w' := by
  have hn : f.d.length ≤ 1048576 := by omega
  have hm : f.s.length ≤ 1048576 := by omega
  have A0 := AfterH.new w (.cells #[.int .i64 f.k, .int .i64 f.a, d, s] 25)
  have C := szHF f d s _ (hd.below A0.below) (h.below A0.below) (by omega) (by omega) (1048576 - (f.d.length : Int) - (f.s.length : Int)) (by rw [if_pos ho])
  have DT : ∀ u, Below w.heap.size w u → Calls Try.prog 6 #[hV f d s] u fun e w' => ∃ r q, e = .returned (hV f r q) ∧ Row w' .u8 r f.d ∧ GRow 2 w' q (SSetting.L f.s) ∧ Below u.heap.size u w' := fun u hb =>
    (toHF f d s u (hd.below hb) (h.below hb) hn hm).mono fun e w' ⟨r, q, B, he, o1, _, _, o2, b⟩ => ⟨r, q, he, row_of_owns o1, o2.row, b⟩
  have DS : ∀ u bo cd q, GRow 2 u q (SSetting.L f.s) → Calls Try.prog 5 #[hV f (.slice bo f.d.length cd) q] u fun e w' => e = .returned (.bool (decide (hyP f.k f.a f.d.length f.s))) ∧ Below u.heap.size u w' := fun u bo cd q hq => hokS f.k f.a bo f.d.length cd q f.s u hq (by omega) (by omega)
  have DI : ∀ u bo cd q, GRow 2 u q (SSetting.L f.s) → Calls Try.prog 7 #[hV f (.slice bo f.d.length cd) q] u fun e w' => e = .returned (.bool (decide (hyP f.k f.a f.d.length f.s))) ∧ Below u.heap.size u w' := fun u bo cd q hq => hokI f.k f.a bo f.d.length cd q f.s u hq (by omega) (by omega)
  have DE : ∀ u r q r' q', Row u .u8 r f.d → GRow 2 u q (SSetting.L f.s) → Row u .u8 r' f.d → GRow 2 u q' (SSetting.L f.s) → _ := fun u r q r' q' h1 h2 h3 h4 => eqHF f r q r' q' u h1 h2 h3 h4 hn hm
  obtain ⟨R, eR⟩ : ∃ R, R = 1048576 - (f.d.length : Int) - (f.s.length : Int) := ⟨_, rfl⟩
  have r0 : 0 ≤ R := by omega
  rw [← eR] at C
  obtain ⟨K, eK⟩ : ∃ K, K = decide (hyP f.k f.a f.d.length f.s) := ⟨_, rfl⟩
  rw [← eK] at DS DI
  have FF : Hid (∀ (u : World) (r q : Value), Row u .u8 r f.d → GRow 2 u q (SSetting.L f.s) → ∃ ao cp bo cd, r = .slice bo f.d.length cd ∧ q = .slice ao f.s.length cp) := fun u r q h1 h2 => by
    obtain ⟨x, y, e⟩ := h1.form
    obtain ⟨z, t, e2⟩ := srow_form h2
    exact ⟨z, t, x, y, e, e2⟩
  obtain ⟨ao, cp, rfl⟩ := srow_form h
  obtain ⟨bo, cd, rfl⟩ := hd.form
  obtain ⟨n, en⟩ : ∃ n, n = f.d.length := ⟨_, rfl⟩
  obtain ⟨m, em⟩ : ∃ m, m = f.s.length := ⟨_, rfl⟩
  rw [← en] at DS DI
  rw [← en, ← em] at C A0 DT FF ⊢
  have H : Hid _ := And.intro C (And.intro A0 (And.intro DT (And.intro DS (And.intro DI DE))))
  clear C A0 DT DS DI DE h hd ho hn hm eR eK en em
  have hk : (K != K) = false := by simp
  unfold hV at *
  obtain ⟨k, a, D, S⟩ := f
  simp only at *
  go_enter Try.func3, Try.ntmps3
  go_wp2_with fail
  go_at_call 4
  refine H.out.1.mono ?_
  rintro e w1 ⟨rfl, b1⟩
  have A1 := H.out.2.1.next b1
  obtain ⟨d0, d1, d2, d3⟩ := hb_cells A1
  have H1 : Hid _ := And.intro A1 True.intro
  clear A1 b1
  go_wp2_with fail
  go_at_call 6
  refine (H.out.2.2.1 w1 (AfterH.below H1.out.1)).mono ?_
  rintro e w2 ⟨r2, q2, rfl, o2, p2, b2⟩
  obtain ⟨qa2, qc2, ra2, rc2, er2, eq2⟩ := FF.out _ _ _ o2 p2
  subst er2
  subst eq2
  have H2 : Hid _ := And.intro (H1.out.1.next b2) p2
  clear b2 o2 p2 d0 d1 d2 d3
  go_wp2_with fail
  go_at_call 5
  refine (H.out.2.2.2.1 w2 _ _ _ H2.out.2).mono ?_
  rintro e w3 ⟨rfl, b3⟩
  have A3 := H2.out.1.next b3
  obtain ⟨d0, d1, d2, d3⟩ := hb_cells A3
  have H3 : Hid _ := And.intro A3 True.intro
  clear A3 b3
  go_wp2_with fail
  go_at_call 6
  refine (H.out.2.2.1 w3 (AfterH.below H3.out.1)).mono ?_
  rintro e w4 ⟨r4, q4, rfl, o4, p4, b4⟩
  obtain ⟨qa4, qc4, ra4, rc4, er4, eq4⟩ := FF.out _ _ _ o4 p4
  subst er4
  subst eq4
  have bA := (Below.refl w4.heap.size w4).alloc (Nat.le_refl _) (.cells #[.int .i64 k, .int .i64 a, .slice ra4 n rc4, .slice qa4 m qc4] 30)
  have A5 := (H3.out.1.next b4).next bA
  have N5 := AfterH.new w4 (.cells #[.int .i64 k, .int .i64 a, .slice ra4 n rc4, .slice qa4 m qc4] 30)
  have H5 : Hid _ := And.intro A5 (And.intro N5 (And.intro (o4.below bA) (p4.below bA)))
  clear b4 o4 p4 A5 N5 bA d0 d1 d2 d3
  go_wp2_with fail
  go_at_call 7
  refine (H.out.2.2.2.2.1 _ _ _ _ H5.out.2.2.2).mono ?_
  rintro e w6 ⟨rfl, b6⟩
  have A6 := (H5.out.1.next b6).next (drew_belowH w6)
  have N6 := (H5.out.2.1.next b6).next (drew_belowH w6)
  obtain ⟨d0, d1, d2, d3⟩ := hb_cells A6
  obtain ⟨e0, e1, e2, e3⟩ := hb_cells N6
  have H6 : Hid _ := And.intro A6 (And.intro N6 (And.intro ((H5.out.2.2.1.below b6).below (drew_belowH w6)) ((H5.out.2.2.2.below b6).below (drew_belowH w6))))
  clear A6 N6 b6
  go_wp2_with fail
  go_region_with (first
    | (go_at_call 6; refine (H.out.2.2.1 w6.drew (AfterH.below H6.out.1)).mono ?_; rintro e w7 ⟨r7, q7, rfl, o7, p7, b7⟩; obtain ⟨qa7, qc7, ra7, rc7, er7, eq7⟩ := FF.out _ _ _ o7 p7; subst er7; subst eq7; obtain ⟨e0', e1', e2', e3'⟩ := hb_cells (H6.out.2.1.next b7); have H7 : Hid _ := And.intro (H6.out.1.next b7) (And.intro (And.intro (H6.out.2.2.1.below b7) (H6.out.2.2.2.below b7)) (And.intro o7 p7)); clear b7 o7 p7)
    | (go_at_call 8; refine (H.out.2.2.2.2.2 _ _ _ _ _ H7.out.2.1.1 H7.out.2.1.2 H7.out.2.2.1 H7.out.2.2.2).mono ?_; rintro e w8 ⟨rfl, b8⟩; have H8 : Hid _ := And.intro (AfterH.below (H7.out.1.next b8)) True.intro; clear b8))
  all_goals
    go_wp2
    go_ret
    exact ⟨rfl, H8.out.1⟩
theorem fnExactHyperOK_walk (f : HF) (d s : Value) (hn : f.d.length ≤ maxLen) (hm : f.s.length ≤ maxLen) (w : World) (hd : Row w .u8 d f.d) (h : GRow 2 w s (SSetting.L f.s)) :
    Calls Try.prog 3 #[hV f d s] w fun e w' => e = .returned (.bool true) ∧ Below w.heap.size w w' := by
  by_cases ho : (f.d.length : Int) + f.s.length ≤ 1048576
  · exact hyp_law f d s w hd h ho
  · exact hyp_huge f d s w hd h (by unfold maxLen at hn; omega) (by unfold maxLen at hm; omega) (by omega)
end Go.Proofs.Ytmfbfophjnaapaa
