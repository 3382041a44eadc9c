import Derived.Test.YtohooehbjbhhhaaDoorHyD
import Derived.Test.YtohooehbjbhhhaaDoorSzBytes
import Derived.Test.YtohooehbjbhhhaaDoorToBytes
import Derived.Test.YtohooehbjbhhhaaDoorEqBytes
import Derived.Test.YtohooehbjbhhhaaDoorBlocks
import Derived.Laws.Rows
namespace Go.Proofs.YtohooehbjbhhhaaDoor
open Go.RowKit
set_option linter.unusedVariables false

theorem infoHF : (Tryd.prog.info? 25).map (·.size) = some 4 := by kernel_rfl
def hV (f : HF) (d s : Value) : Value := .agg #[.int .i64 f.k, .int .i64 f.a, d, s]
theorem gown_setH {T : TypeId} {K g i base : Nat} {wx : World} {u v : Value} {L : List (List Value)} (h : GOwns T K wx base v L) (hb : g < base) : GOwns T K (wx.setCell ⟨g, i, none⟩ u) base v L :=
  GOwns.only (Only.setCell (w := wx) ⟨g, i, none⟩ u) h (fun k hk e => by obtain ⟨zs, ho, _⟩ := h; have := (ho.lt k hk).1; have := Option.some.inj e; simp only at this; omega)
theorem own_setH {e n g i base : Nat} {wx : World} {u v : Value} {xs : List Value} (h : wx.ownsRow base e 1 v n xs) (hb : g < base) : (wx.setCell ⟨g, i, none⟩ u).ownsRow base e 1 v n xs :=
  (Only.setCell (w := wx) ⟨g, i, none⟩ u).owns h (fun k hk e => by have := (h.lt k hk).1; have := Option.some.inj e; simp only at this; omega)
theorem eqHF (f : HF) (d s d' s' : Value) (w : World) (hd : Row w .u8 d f.d) (h : GRow 2 w s (SSetting.L f.s)) (hd' : Row w .u8 d' f.d) (h' : GRow 2 w s' (SSetting.L f.s)) (hn : f.d.length ≤ 1048576) (hm : f.s.length ≤ 1048576) :
    Calls Tryd.prog 7 #[hV f d s, hV f d' s'] w fun e w' => e = .returned (.bool true) ∧ Below w.heap.size w w' := by
  have b0 : Below w.heap.size w ((w.alloc (.cells #[.int .i64 f.k, .int .i64 f.a, d, s] 25)).alloc (.cells #[.int .i64 f.k, .int .i64 f.a, d', s'] 25)) := ((Below.refl _ _).alloc (Nat.le_refl _) _).alloc (by simp) _
  have C := eqBytes_same d d' f.d _ (hd.below b0) (hd'.below b0) (by omega)
  have C2 : ∀ u, Below w.heap.size w u → _ := fun u hu => eqSettingS s s' f.s u (h.below hu) (h'.below hu) hm
  obtain ⟨ao, cp, rfl⟩ := srow_form h
  obtain ⟨ao', cp', rfl⟩ := srow_form h'
  obtain ⟨bo, cd, rfl⟩ := hd.form
  obtain ⟨bo', cd', rfl⟩ := hd'.form
  have H : Hid _ := And.intro C (And.intro C2 b0)
  obtain ⟨n, en⟩ : ∃ n, n = f.d.length := ⟨_, rfl⟩
  obtain ⟨m, em⟩ : ∃ m, m = f.s.length := ⟨_, rfl⟩
  rw [← en, ← em] at H ⊢
  clear C C2 b0 hd h hd' h' hn hm en em
  unfold hV
  obtain ⟨k, a, D, S⟩ := f
  simp only at *
  have k0 : (k != k) = false := by simp
  have a0 : (a != a) = false := by simp
  go_enter Tryd.func7, Tryd.ntmps7
  go_wp2_with fail
  go_at_call 8
  refine H.out.1.mono ?_
  rintro e w1 ⟨rfl, z, hz⟩
  have bz : Below w.heap.size w w1 := by rw [hz]; exact below_drewN H.out.2.2 z
  have c3 : w1.cell? ⟨w.heap.size, 3, none⟩ = some (.slice ao m cp) := by rw [hz]; exact (bk_cell (bk_new2 w (.cells #[.int .i64 k, .int .i64 a, .slice bo n cd, .slice ao m cp] 25) (.cells #[.int .i64 k, .int .i64 a, .slice bo' n cd', .slice ao' m cp'] 25)).1 3)
  have d3 : w1.cell? ⟨w.heap.size + 1, 3, none⟩ = some (.slice ao' m cp') := by rw [hz]; exact (bk_cell (bk_new2 w (.cells #[.int .i64 k, .int .i64 a, .slice bo n cd, .slice ao m cp] 25) (.cells #[.int .i64 k, .int .i64 a, .slice bo' n cd', .slice ao' m cp'] 25)).2 3)
  have H1 : Hid _ := And.intro bz True.intro
  clear bz hz
  go_wp2_with fail
  go_at_call 24
  refine (H.out.2.1 _ H1.out.1).mono ?_
  rintro e w2 ⟨rfl, b2⟩
  have H2 : Hid _ := And.intro (H1.out.1.trans (b2.mono H1.out.1.size)) True.intro
  clear b2
  go_wp2
  go_ret
  exact ⟨rfl, H2.out.1⟩
end Go.Proofs.YtohooehbjbhhhaaDoor
