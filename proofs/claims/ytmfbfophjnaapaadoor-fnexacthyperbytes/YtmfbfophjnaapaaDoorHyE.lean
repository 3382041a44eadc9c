import Derived.Test.YtmfbfophjnaapaaDoorHyD
import Derived.Test.YtmfbfophjnaapaaDoorSzBytes
import Derived.Test.YtmfbfophjnaapaaDoorToBytes
import Derived.Test.YtmfbfophjnaapaaDoorEqBytes
import Derived.Test.YtmfbfophjnaapaaDoorBlocks
import Derived.Laws.Rows
namespace Go.Proofs.YtmfbfophjnaapaaDoor
open Go.RowKit
set_option linter.unusedVariables false

theorem infoHF : (Tryd.prog.info? 31).map (·.size) = some 4 := by kernel_rfl
def hV (f : HF) (d s : Value) : Value := .agg #[.int .i64 f.k, .int .i64 f.a, d, s]
theorem gown_setH {T : TypeId} {K g i base : Nat} {wx : World} {u v : Value} {L : List (List Value)} (h : GOwns T K wx base v L) (hb : g < base) : GOwns T K (wx.setCell ⟨g, i, none⟩ u) base v L :=
  GOwns.only (Only.setCell (w := wx) ⟨g, i, none⟩ u) h (fun k hk e => by obtain ⟨zs, ho, _⟩ := h; have := (ho.lt k hk).1; have := Option.some.inj e; simp only at this; omega)
theorem own_setH {e n g i base : Nat} {wx : World} {u v : Value} {xs : List Value} (h : wx.ownsRow base e 1 v n xs) (hb : g < base) : (wx.setCell ⟨g, i, none⟩ u).ownsRow base e 1 v n xs :=
  (Only.setCell (w := wx) ⟨g, i, none⟩ u).owns h (fun k hk e => by have := (h.lt k hk).1; have := Option.some.inj e; simp only at this; omega)
set_option maxHeartbeats 2000000 in
theorem szHF (f : HF) (d s : Value) (w : World) (hd : Row w .u8 d f.d) (h : GRow 2 w s (SSetting.L f.s)) (hn : f.d.length ≤ 9223372036854775807) (hm : f.s.length ≤ 9223372036854775807) (r : Int) (hr : r = if (f.d.length : Int) + f.s.length ≤ 1048576 then 1048576 - (f.d.length : Int) - (f.s.length : Int) else -1) :
    Calls Tryd.prog 4 #[hV f d s, .int .i64 1048576] w fun e w' => e = .returned (.int .i64 r) ∧ Below w.heap.size w w' := by
  have b0 : Below w.heap.size w (w.alloc (.cells #[.int .i64 f.k, .int .i64 f.a, d, s] 25)) := (Below.refl _ _).alloc (Nat.le_refl _) _
  have hd' := hd.below b0
  obtain ⟨ao, cp, rfl⟩ := srow_form h
  unfold hV
  by_cases h1 : (f.d.length : Int) ≤ 1048576
  · have C := szBytes_fit d f.d 1048576 _ hd' h1 (by decide)
    obtain ⟨bo, cd, rfl⟩ := hd.form
    have hl : ¬ (1048576 - (f.d.length : Int) < 0) := by omega
    by_cases h2 : (f.s.length : Int) ≤ 1048576 - f.d.length
    · have C2 := szSetting_fit ao f.s.length cp (1048576 - (f.d.length : Int)) (w.alloc (.cells #[.int .i64 f.k, .int .i64 f.a, .slice bo f.d.length cd, .slice ao f.s.length cp] 25)) (by omega) h2
      rw [if_pos (by omega)] at hr
      have hl2 : ¬ (1048576 - (f.d.length : Int) - (f.s.length : Int) < 0) := by omega
      subst hr
      obtain ⟨n, en⟩ : ∃ n, n = f.d.length := ⟨_, rfl⟩
      obtain ⟨m, em⟩ : ∃ m, m = f.s.length := ⟨_, rfl⟩
      rw [← en, ← em] at C C2 b0 hl2 ⊢
      rw [← en] at hl
      obtain ⟨X, eX⟩ : ∃ X, X = 1048576 - (n : Int) := ⟨_, rfl⟩
      rw [← eX] at C C2 hl hl2 ⊢
      have H : Hid _ := And.intro C (And.intro C2 b0)
      clear C C2 b0 h1 h2 hd hd' h hn hm en em eX
      obtain ⟨k, a, D, S⟩ := f
      simp only at *
      go_enter Tryd.func4, Tryd.ntmps4
      go_wp2_with fail
      go_at_call 13
      refine H.out.1.mono ?_
      rintro e w1 ⟨rfl, hw⟩
      subst hw
      go_wp2_with fail
      go_at_call 14
      refine H.out.2.1.mono ?_
      rintro e w1 ⟨rfl, hw⟩
      subst hw
      go_wp2
      go_ret
      exact ⟨rfl, H.out.2.2⟩
    · have C2 := szSetting_over ao f.s.length cp (1048576 - (f.d.length : Int)) (w.alloc (.cells #[.int .i64 f.k, .int .i64 f.a, .slice bo f.d.length cd, .slice ao f.s.length cp] 25)) (by omega) hm (by omega)
      rw [if_neg (by omega)] at hr
      subst hr
      obtain ⟨n, en⟩ : ∃ n, n = f.d.length := ⟨_, rfl⟩
      obtain ⟨m, em⟩ : ∃ m, m = f.s.length := ⟨_, rfl⟩
      rw [← en, ← em] at C C2 b0 ⊢
      rw [← en] at hl
      obtain ⟨X, eX⟩ : ∃ X, X = 1048576 - (n : Int) := ⟨_, rfl⟩
      rw [← eX] at C C2 hl
      have H : Hid _ := And.intro C (And.intro C2 b0)
      clear C C2 b0 h1 h2 hd hd' h hn hm en em eX
      obtain ⟨k, a, D, S⟩ := f
      simp only at *
      go_enter Tryd.func4, Tryd.ntmps4
      go_wp2_with fail
      go_at_call 13
      refine H.out.1.mono ?_
      rintro e w1 ⟨rfl, hw⟩
      subst hw
      go_wp2_with fail
      go_at_call 14
      refine H.out.2.1.mono ?_
      rintro e w1 ⟨rfl, hw⟩
      subst hw
      go_wp2
      go_ret
      exact ⟨rfl, H.out.2.2⟩
  · have C := szBytes_over d f.d 1048576 _ hd' hn (by omega) (by decide)
    obtain ⟨bo, cd, rfl⟩ := hd.form
    rw [if_neg (by omega)] at hr
    subst hr
    obtain ⟨n, en⟩ : ∃ n, n = f.d.length := ⟨_, rfl⟩
    obtain ⟨m, em⟩ : ∃ m, m = f.s.length := ⟨_, rfl⟩
    rw [← en, ← em] at C b0 ⊢
    have H : Hid _ := And.intro C b0
    clear C b0 h1 hd hd' h hn hm en em
    obtain ⟨k, a, D, S⟩ := f
    simp only at *
    go_enter Tryd.func4, Tryd.ntmps4
    go_wp2_with fail
    go_at_call 13
    refine H.out.1.mono ?_
    rintro e w1 ⟨rfl, hw⟩
    subst hw
    go_wp2
    go_ret
    exact ⟨rfl, H.out.2⟩
theorem eqHF (f : HF) (d s d' s' : Value) (w : World) (hd : Row w .u8 d f.d) (h : GRow 2 w s (SSetting.L f.s)) (hd' : Row w .u8 d' f.d) (h' : GRow 2 w s' (SSetting.L f.s)) (hn : f.d.length ≤ 1048576) (hm : f.s.length ≤ 1048576) :
    Calls Tryd.prog 9 #[hV f d s, hV f d' s'] w fun e w' => e = .returned (.bool true) ∧ Below w.heap.size w w' := by
  have b0 : Below w.heap.size w ((w.alloc (.cells #[.int .i64 f.k, .int .i64 f.a, d, s] 31)).alloc (.cells #[.int .i64 f.k, .int .i64 f.a, d', s'] 31)) := ((Below.refl _ _).alloc (Nat.le_refl _) _).alloc (by simp) _
  have C := eqBytes_same d d' f.d _ (hd.below b0) (hd'.below b0) (by omega)
  have C2 : ∀ u, Below w.heap.size w u → _ := fun u hu => eqSettingS s s' f.s u (h.below hu) (h'.below hu) hm
  obtain ⟨ao, cp, rfl⟩ := srow_form h
  obtain ⟨ao', cp', rfl⟩ := srow_form h'
  obtain ⟨bo, cd, rfl⟩ := hd.form
  obtain ⟨bo', cd', rfl⟩ := hd'.form
  have H : Hid _ := And.intro C (And.intro C2 b0)
  obtain ⟨n, en⟩ : ∃ n, n = f.d.length := ⟨_, rfl⟩
  obtain ⟨m, em⟩ : ∃ m, m = f.s.length := ⟨_, rfl⟩
  rw [← en, ← em] at H ⊢
  clear C C2 b0 hd h hd' h' hn hm en em
  unfold hV
  obtain ⟨k, a, D, S⟩ := f
  simp only at *
  have k0 : (k != k) = false := by simp
  have a0 : (a != a) = false := by simp
  go_enter Tryd.func9, Tryd.ntmps9
  go_wp2_with fail
  go_at_call 8
  refine H.out.1.mono ?_
  rintro e w1 ⟨rfl, z, hz⟩
  have bz : Below w.heap.size w w1 := by rw [hz]; exact below_drewN H.out.2.2 z
  have c3 : w1.cell? ⟨w.heap.size, 3, none⟩ = some (.slice ao m cp) := by rw [hz]; exact (bk_cell (bk_new2 w (.cells #[.int .i64 k, .int .i64 a, .slice bo n cd, .slice ao m cp] 31) (.cells #[.int .i64 k, .int .i64 a, .slice bo' n cd', .slice ao' m cp'] 31)).1 3)
  have d3 : w1.cell? ⟨w.heap.size + 1, 3, none⟩ = some (.slice ao' m cp') := by rw [hz]; exact (bk_cell (bk_new2 w (.cells #[.int .i64 k, .int .i64 a, .slice bo n cd, .slice ao m cp] 31) (.cells #[.int .i64 k, .int .i64 a, .slice bo' n cd', .slice ao' m cp'] 31)).2 3)
  have H1 : Hid _ := And.intro bz True.intro
  clear bz hz
  go_wp2_with fail
  go_at_call 25
  refine (H.out.2.1 _ H1.out.1).mono ?_
  rintro e w2 ⟨rfl, b2⟩
  have H2 : Hid _ := And.intro (H1.out.1.trans (b2.mono H1.out.1.size)) True.intro
  clear b2
  go_wp2
  go_ret
  exact ⟨rfl, H2.out.1⟩
end Go.Proofs.YtmfbfophjnaapaaDoor
