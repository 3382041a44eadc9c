import Derived.Test.YtmfbfophjnaapaaDoorHzE
namespace Go.Proofs.YtmfbfophjnaapaaDoor
open Go.RowKit
set_option linter.unusedVariables false

set_option maxRecDepth 20000 in
set_option maxHeartbeats 8000000 in
theorem hby_law (f : HF) (d s : Value) (w : World) (ht : Tab w) (hd : Row w .u8 d f.d) (h : GRow 2 w s (SSetting.L f.s)) (ho : (f.d.length : Int) + f.s.length ≤ 1048576) :
    Calls Tryd.prog 3 #[hV f d s] w fun e w' => e = .returned (.bool true) ∧ Below w.heap.size w w' := by
  have hn : f.d.length ≤ 1048576 := by omega
  have hm : f.s.length ≤ 1048576 := by omega
  have A0 := AfterH.new w (.cells #[.int .i64 f.k, .int .i64 f.a, d, s] 25)
  have C := szHF f d s _ (hd.below A0.below) (h.below A0.below) (by omega) (by omega) (1048576 - (f.d.length : Int) - (f.s.length : Int)) (by rw [if_pos ho])
  have DT : ∀ u, Below w.heap.size w u → Calls Tryd.prog 6 #[hV f d s] u fun e w' => ∃ r q B, e = .returned (hV f r q) ∧ w'.ownsRow u.heap.size 5 1 r f.d.length (f.d.map (Value.int .u8)) ∧ u.heap.size ≤ B ∧ (∀ k, r.ownBlock = some k → k < B) ∧ GOwns 54 2 w' B q (SSetting.L f.s) ∧ Below u.heap.size u w' := fun u hb => toHF f d s u (hd.below hb) (h.below hb) hn hm
  have DS : ∀ u r q, Row u .u8 r f.d → GRow 2 u q (SSetting.L f.s) → _ := fun u r q h1 h2 => hbyS f r q u h1 h2 hn hm
  have DI : ∀ u r q, Below w.heap.size w u → Row u .u8 r f.d → GRow 2 u q (SSetting.L f.s) → _ := fun u r q hb h1 h2 => hbyI f r q u (ht.below hb ht.lt) h1 h2 hn hm
  have DE : ∀ u r q r' q', Row u .u8 r f.d → GRow 2 u q (SSetting.L f.s) → Row u .u8 r' f.d → GRow 2 u q' (SSetting.L f.s) → _ := fun u r q r' q' h1 h2 h3 h4 => eqHF f r q r' q' u h1 h2 h3 h4 hn hm
  have DM : ∀ u r q B1 B2, u.ownsRow B1 5 1 r f.d.length (f.d.map (Value.int .u8)) → GOwns 54 2 u B2 q (SSetting.L f.s) → (∀ k, r.ownBlock = some k → k < B2) → _ := fun u r q B1 B2 h1 h2 h3 => markHF f r q B1 B2 u h1 h2 h3 hn hm
  have hyl := hbR_le f
  obtain ⟨Y, eY⟩ : ∃ Y, Y = (hbR f).1 := ⟨_, rfl⟩
  obtain ⟨c, ec⟩ : ∃ c, c = (hbR f).2 := ⟨_, rfl⟩
  rw [← eY] at hyl
  rw [← eY, ← ec] at DS DI
  obtain ⟨R, eR⟩ : ∃ R, R = 1048576 - (f.d.length : Int) - (f.s.length : Int) := ⟨_, rfl⟩
  have r0 : 0 ≤ R := by omega
  rw [← eR] at C
  have FF : Hid (∀ (u : World) (r q : Value), Row u .u8 r f.d → GRow 2 u q (SSetting.L f.s) → ∃ ao cp bo cd, r = .slice bo f.d.length cd ∧ q = .slice ao f.s.length cp) := fun u r q h1 h2 => by
    obtain ⟨x, y, e⟩ := h1.form
    obtain ⟨z, t, e2⟩ := srow_form h2
    exact ⟨z, t, x, y, e, e2⟩
  obtain ⟨ao, cp, rfl⟩ := srow_form h
  obtain ⟨bo, cd, rfl⟩ := hd.form
  obtain ⟨n, en⟩ : ∃ n, n = f.d.length := ⟨_, rfl⟩
  obtain ⟨m, em⟩ : ∃ m, m = f.s.length := ⟨_, rfl⟩
  obtain ⟨l, el⟩ : ∃ l, l = Y.length := ⟨_, rfl⟩
  rw [← el] at DS DI hyl
  rw [← en, ← em] at C A0 DM FF ⊢
  rw [← en, ← em] at DT
  have H : Hid _ := And.intro C (And.intro A0 (And.intro DT (And.intro DS (And.intro DI (And.intro DE (And.intro DM el))))))
  have k0 : 0 ≤ (n : Int) := by omega
  have hnn : (n : Int) ≤ 1048576 := by omega
  have hmm : (m : Int) ≤ 1048576 := by omega
  clear C A0 DT DS DI DE DM h hd ho hn hm eR en em el eY ec ht
  have hc : (c != c) = false := by simp
  unfold hV at *
  obtain ⟨k, a, D, S⟩ := f
  simp only at *
  go_enter Tryd.func3, Tryd.ntmps3
  go_wp2_with fail
  go_at_call 4
  refine H.out.1.mono ?_
  rintro e w1 ⟨rfl, b1⟩
  have A1 := H.out.2.1.next b1
  obtain ⟨d0, d1, d2, d3⟩ := hb_cells A1
  have H1 : Hid _ := And.intro A1 True.intro
  clear A1 b1
  go_wp2_with fail
  go_at_call 6
  refine (H.out.2.2.1 w1 (AfterH.below H1.out.1)).mono ?_
  rintro e w2 ⟨r2, q2, B2, rfl, o2, x2, y2, p2, b2⟩
  obtain ⟨qa2, qc2, ra2, rc2, er2, eq2⟩ := FF.out _ _ _ (row_of_owns o2) p2.row
  subst er2
  subst eq2
  have H2 : Hid _ := And.intro (H1.out.1.next b2) (And.intro (row_of_owns o2) p2.row)
  clear b2 o2 p2 x2 y2 d0 d1 d2 d3
  go_wp2_with fail
  go_at_call 5
  refine (H.out.2.2.2.1 w2 _ _ H2.out.2.1 H2.out.2.2).mono ?_
  rintro e w3 ⟨rs, rfl, os, b3⟩
  have A3 := H2.out.1.next b3
  obtain ⟨d0, d1, d2, d3⟩ := hb_cells A3
  have hz3 : w.heap.size + 1 ≤ w3.heap.size := by have := Below.size A3; simpa using this
  have H3 : Hid _ := And.intro A3 (And.intro os hz3)
  clear A3 b3 os hz3
  go_wp2_with fail
  go_at_call 6
  refine (H.out.2.2.1 w3 (AfterH.below H3.out.1)).mono ?_
  rintro e w4 ⟨r4, q4, B4, rfl, o4, x4, y4, p4, b4⟩
  obtain ⟨qa4, qc4, ra4, rc4, er4, eq4⟩ := FF.out _ _ _ (row_of_owns o4) p4.row
  subst er4
  subst eq4
  have bX := (Below.refl w4.heap.size w4).alloc (Nat.le_refl _) (.cells #[.int .i64 k, .int .i64 a, .slice ra4 n rc4, .slice qa4 m qc4] 31)
  have A5 := (H3.out.1.next b4).next bX
  have N5 := AfterH.new w4 (.cells #[.int .i64 k, .int .i64 a, .slice ra4 n rc4, .slice qa4 m qc4] 31)
  have l4 : (∀ j, (Value.slice ra4 n rc4).ownBlock = some j → w3.heap.size ≤ j ∧ j < w4.heap.size) ∧ (∀ j, (Value.slice qa4 m qc4).ownBlock = some j → w3.heap.size ≤ j ∧ j < w4.heap.size) := ⟨fun j e => o4.lt j e, fun j e => by obtain ⟨zs, hoo, _⟩ := p4; have := hoo.lt j e; exact ⟨by omega, this.2⟩⟩
  have H5 : Hid _ := And.intro A5 (And.intro N5 (And.intro (owns_below o4 bX) (And.intro (p4.below bX) (And.intro y4 (And.intro (owns_below (owns_below H3.out.2.1 b4) bX) (And.intro l4 (Nat.le_trans b4.size (Nat.le_refl _))))))))
  clear b4 o4 p4 A5 N5 bX x4 y4 l4 d0 d1 d2 d3
  go_wp2_with fail
  go_at_call 7
  refine (H.out.2.2.2.2.1 _ _ _ (AfterH.below H5.out.1) (row_of_owns H5.out.2.2.1) H5.out.2.2.2.1.row).mono ?_
  rintro e w6 ⟨rg, rfl, og, b6⟩
  have hz6 : w4.heap.size + 1 ≤ w6.heap.size := by have := b6.size; simpa using this
  have H6 : Hid _ := And.intro (H5.out.1.next b6) (And.intro (H5.out.2.1.next b6) (And.intro (owns_below H5.out.2.2.1 b6) (And.intro (H5.out.2.2.2.1.below b6) (And.intro (owns_below H5.out.2.2.2.2.2.1 b6) (And.intro (owns_mono (base' := w4.heap.size + 1) og (by simp)) hz6)))))
  clear b6 og hz6
  go_wp2_with fail
  go_at_call 8
  refine (eqBytes_same rg rs Y w6 (row_of_owns H6.out.2.2.2.2.2.1) (row_of_owns H6.out.2.2.2.2.1) (by rw [← H.out.2.2.2.2.2.2.2]; omega)).mono ?_
  rintro e w7 ⟨rfl, z7, hw7⟩
  have b7 : Below w6.heap.size w6 w7.drew := by rw [hw7]; exact below_drewN (below_drewN (Below.refl _ _) z7) 1
  have b7p : Below w6.heap.size w6 w7 := by rw [hw7]; exact below_drewN (Below.refl _ _) z7
  clear hw7
  have A7 := H6.out.1.next b7
  have N7 := H6.out.2.1.next b7
  obtain ⟨d0, d1, d2, d3⟩ := hb_cells A7
  obtain ⟨e0, e1, e2, e3⟩ := hb_cells N7
  have H7 : Hid _ := And.intro A7 (And.intro N7 (And.intro (owns_below H6.out.2.2.1 b7) (And.intro (H6.out.2.2.2.1.below b7) b7p)))
  clear A7 N7 b7 b7p
  go_upto_region 10 with fail
  go_cut [45] from 41 to 45 (fun cv wx => cv = .bool false ∧ Below w7.heap.size w7 wx)
  case first =>
    have D : Hid (Below w7.heap.size w7 w7.drew) := below_drewN (Below.refl _ _) 1
    go_region_with (first
      | (go_at_call 6; refine (H.out.2.2.1 w7.drew (AfterH.below H7.out.1)).mono ?_; rintro e w8 ⟨r8, q8, B8, rfl, o8, x8, y8, p8, b8⟩; obtain ⟨qa8, qc8, ra8, rc8, er8, eq8⟩ := FF.out _ _ _ (row_of_owns o8) p8.row; subst er8; subst eq8; obtain ⟨e0', e1', e2', e3'⟩ := hb_cells (H7.out.2.1.next b8); have H8 : Hid _ := And.intro (And.intro (row_of_owns (owns_below H7.out.2.2.1 b8)) (H7.out.2.2.2.1.below b8).row) (And.intro (And.intro (row_of_owns o8) p8.row) (D.out.trans (b8.mono D.out.size))); clear b8 o8 p8 x8 y8)
      | (go_at_call 9; refine (H.out.2.2.2.2.2.1 _ _ _ _ _ H8.out.1.1 H8.out.1.2 H8.out.2.1.1 H8.out.2.1.2).mono ?_; rintro e w9 ⟨rfl, b9⟩))
    all_goals (go_wp2_with fail; go_meet; exact ⟨rfl, H8.out.2.2.trans (b9.mono H8.out.2.2.size)⟩)
  case rest =>
  obtain ⟨rfl, bc⟩ := hcut
  have bb := H7.out.2.2.2.2.trans (bc.mono H7.out.2.2.2.2.size)
  have AC := H6.out.1.next bb
  have NC := H6.out.2.1.next bb
  clear d0 d1 d2 d3 e0 e1 e2 e3
  obtain ⟨e0, e1, e2, e3⟩ := hb_cells NC
  have HC : Hid _ := And.intro AC (And.intro (owns_below H6.out.2.2.1 bb) (And.intro (H6.out.2.2.2.1.below bb) (And.intro (owns_below H6.out.2.2.2.2.1 bb) (And.intro (owns_below H6.out.2.2.2.2.2.1 bb) (Nat.le_trans H6.out.2.2.2.2.2.2 bb.size)))))
  clear bc bb AC NC
  go_wp2_with fail
  go_at_call 10
  refine (H.out.2.2.2.2.2.2.1 _ _ _ _ _ HC.out.2.1 HC.out.2.2.1 H5.out.2.2.2.2.1).mono ?_
  rintro e w10 ⟨rfl, ch⟩
  have bl : Below (w.heap.size + 1) wc w10 := ch.below (by have := Below.size HC.out.1; simpa using this) (fun j hj => by have h3 := H3.out.2.2; have := (hj.elim (H5.out.2.2.2.2.2.2.1.1 j) (H5.out.2.2.2.2.2.2.1.2 j)).1; omega)
  have os : w10.ownsRow w2.heap.size 5 1 rs l (Y.map (Value.int .u8)) := ch.owns HC.out.2.2.2.1 (fun j hj hs => by have h1 := (H3.out.2.1.lt j hj).2; have := (hs.elim (H5.out.2.2.2.2.2.2.1.1 j) (H5.out.2.2.2.2.2.2.1.2 j)).1; omega)
  have og : w10.ownsRow (w4.heap.size + 1) 5 1 rg l (Y.map (Value.int .u8)) := ch.owns HC.out.2.2.2.2.1 (fun j hj hs => by have h1 := (HC.out.2.2.2.2.1.lt j hj).1; have := (hs.elim (H5.out.2.2.2.2.2.2.1.1 j) (H5.out.2.2.2.2.2.2.1.2 j)).2; omega)
  have H10 : Hid _ := And.intro (Below.trans HC.out.1 bl) (And.intro os (And.intro og (Nat.le_trans HC.out.2.2.2.2.2 ch.size)))
  clear ch bl os og e0 e1 e2 e3
  go_wp2_with fail
  go_at_call 8
  refine (eqBytes_same rg rs Y w10 (row_of_owns H10.out.2.2.1) (row_of_owns H10.out.2.1) (by rw [← H.out.2.2.2.2.2.2.2]; omega)).mono ?_
  rintro e w11 ⟨rfl, z11, hw11⟩
  have b11 : Below w10.heap.size w10 w11 := by rw [hw11]; exact below_drewN (Below.refl _ _) z11
  clear hw11
  have H11 : Hid _ := And.intro (Below.trans H10.out.1 (b11.mono (by have := Below.size H10.out.1; simpa using this))) (And.intro (owns_below H10.out.2.1 b11) (And.intro (owns_below H10.out.2.2.1 b11) (Nat.le_trans H10.out.2.2.2 b11.size)))
  clear b11
  go_wp2_with fail
  go_at_call 11
  refine (markBytes 1 l (w4.heap.size + 1) rg Y w11 (by omega) (by decide) (by decide) H11.out.2.2.1).mono ?_
  rintro e w12 ⟨rfl, o12, b12, z12, n12⟩
  have H12 : Hid _ := And.intro (Below.trans H11.out.1 (b12.mono (by have := H5.out.2.2.2.2.2.2.2; have := H3.out.2.2; omega))) (And.intro (n12.owns H11.out.2.1 (fun j hj e => by have h1 := (H3.out.2.1.lt j hj).2; have h2 := (H11.out.2.2.1.lt j e.symm).1; have := H5.out.2.2.2.2.2.2.2; omega)) o12)
  clear o12 b12 z12 n12
  go_wp2_with fail
  go_at_call 12
  refine (heldBytes 1 l rg w12 (row_of_owns H12.out.2.2) (by omega) (by decide) (by decide)).mono ?_
  rintro e w13 ⟨rfl, hw13⟩
  subst hw13
  have hq : ((1 + (l : Int)) != (1 + (l : Int))) = false := by simp
  obtain ⟨d0, d1, d2, d3⟩ := hb_cells H12.out.1
  go_wp2_with fail
  go_at_call 6
  refine (H.out.2.2.1 _ (AfterH.below H12.out.1)).mono ?_
  rintro e w14 ⟨r14, q14, B14, rfl, o14, x14, y14, p14, b14⟩
  obtain ⟨qa14, qc14, ra14, rc14, er14, eq14⟩ := FF.out _ _ _ (row_of_owns o14) p14.row
  subst er14
  subst eq14
  have H14 : Hid _ := And.intro (AfterH.next H12.out.1 b14) (And.intro (owns_below H12.out.2.1 b14) (And.intro (owns_below H12.out.2.2 b14) (And.intro (row_of_owns o14) p14.row)))
  clear b14 o14 p14 x14 y14 d0 d1 d2 d3
  go_wp2_with fail
  go_at_call 7
  refine (H.out.2.2.2.2.1 _ _ _ (AfterH.below H14.out.1) H14.out.2.2.2.1 H14.out.2.2.2.2).mono ?_
  rintro e w15 ⟨rh, rfl, oh, b15⟩
  have H15 : Hid _ := And.intro (AfterH.next H14.out.1 b15) (And.intro (owns_below H14.out.2.1 b15) (And.intro (owns_below H14.out.2.2.1 b15) oh))
  clear b15 oh
  go_wp2_with fail
  go_at_call 8
  refine (eqBytes_same rh rs Y w15 (row_of_owns H15.out.2.2.2) (row_of_owns H15.out.2.1) (by rw [← H.out.2.2.2.2.2.2.2]; omega)).mono ?_
  rintro e w16 ⟨rfl, z16, hw16⟩
  have b16 : Below w15.heap.size w15 w16 := by rw [hw16]; exact below_drewN (Below.refl _ _) z16
  clear hw16
  have H16 : Hid _ := And.intro (AfterH.next H15.out.1 b16) (owns_below H15.out.2.2.1 b16)
  clear b16
  go_wp2_with fail
  go_at_call 12
  refine (heldBytes 1 l rg w16 (row_of_owns H16.out.2) (by omega) (by decide) (by decide)).mono ?_
  rintro e w17 ⟨rfl, hw17⟩
  subst hw17
  go_wp2
  go_ret
  exact ⟨rfl, AfterH.below H16.out.1⟩
theorem fnExactHyperBytes_walk (f : HF) (d s : Value) (hn : f.d.length ≤ maxLen) (hm : f.s.length ≤ maxLen) (w : World) (hd : Row w .u8 d f.d) (h : GRow 2 w s (SSetting.L f.s)) (ht : Tab w) :
    Calls Tryd.prog 3 #[hV f d s] w fun e w' => e = .returned (.bool true) ∧ Below w.heap.size w w' := by
  by_cases ho : (f.d.length : Int) + f.s.length ≤ 1048576
  · exact hby_law f d s w ht hd h ho
  · exact hby_huge f d s w hd h (by unfold maxLen at hn; omega) (by unfold maxLen at hm; omega) (by omega)
end Go.Proofs.YtmfbfophjnaapaaDoor
