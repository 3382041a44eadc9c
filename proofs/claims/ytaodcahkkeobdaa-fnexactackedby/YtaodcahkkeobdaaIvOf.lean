import Derived.Test.YtaodcahkkeobdaaRngOK
namespace Go.Proofs.Ytaodcahkkeobdaa
open Go.RowKit
set_option linter.unusedVariables false

/-- Pairs of one's own, of the type T. -/
def POwns (T : TypeId) (w : World) (base : Nat) (v : Value) (R : List (Int × Int)) : Prop :=
  ∃ zs : List Value, w.ownsRow base T 2 v R.length zs ∧ ∀ j, j < R.length → zs[j * 2]? = some (.int .i64 (rlo R j)) ∧ zs[j * 2 + 1]? = some (.int .i64 (rhi R j))
theorem POwns.row {T : TypeId} {w : World} {base : Nat} {v : Value} {R : List (Int × Int)} (h : POwns T w base v R) : RRow w v R := by
  obtain ⟨zs, ho, hz⟩ := h
  by_cases h0 : R.length = 0
  · have hR : R = [] := List.eq_nil_of_length_eq_zero h0
    rcases ho.2 with ⟨rfl, _⟩ | ⟨g, cap, cur, rfl, _⟩
    · exact Or.inl ⟨hR, _, _, rfl⟩
    · exact Or.inl ⟨hR, _, _, by rw [h0]⟩
  · have ho' := ho
    rcases ho.2 with ⟨_, h1⟩ | ⟨g, cap, cur, rfl, hb, hg, _⟩
    · omega
    · refine Or.inr ⟨g, 0, cap, rfl, (Array.getElem?_eq_some_iff.1 hg).1, fun j hj => ?_⟩
      have e0 := ho'.cellAt (j * 2) (by omega)
      have e1 := ho'.cellAt (j * 2 + 1) (by omega)
      rw [Nat.zero_add]
      exact ⟨e0.trans (hz j hj).1, e1.trans (hz j hj).2⟩
theorem POwns.below {T : TypeId} {w w' : World} {base : Nat} {v : Value} {R : List (Int × Int)} (h : POwns T w base v R) (hb : Below w.heap.size w w') : POwns T w' base v R := by
  obtain ⟨zs, ho, hz⟩ := h
  exact ⟨zs, owns_below ho hb, hz⟩
theorem POwns.mono {T : TypeId} {w : World} {base base' : Nat} {v : Value} {R : List (Int × Int)} (h : POwns T w base v R) (hb : base' ≤ base) : POwns T w base' v R := by
  obtain ⟨zs, ho, hz⟩ := h
  exact ⟨zs, owns_mono ho hb, hz⟩
theorem infoIv : (Try.prog.info? 71).map (fun i => (i.zero, i.size, i.bytes)) = some (some (.agg #[.int .i64 0, .int .i64 0]), 2, 16) := by kernel_rfl
theorem infoRg' : (Try.prog.info? 50).map (fun i => (i.zero, i.size, i.bytes)) = some (some (.agg #[.int .i64 0, .int .i64 0]), 2, 16) := by kernel_rfl

set_option maxRecDepth 20000 in
set_option maxHeartbeats 2000000 in
theorem ivOf' (v : Value) (R : List (Int × Int)) (w : World) (h : RRow w v R) (hR : R.length ≤ 1048576) :
    Calls Try.prog 37 #[v] w fun e w' => e = .returned (.slice (some ⟨w.heap.size, 0, none⟩) R.length R.length) ∧ POwns 71 w' w.heap.size (.slice (some ⟨w.heap.size, 0, none⟩) R.length R.length) R ∧ Below w.heap.size w w' := by
  obtain ⟨ao, cp, rfl⟩ := h.form
  obtain ⟨i0, hi, hz0, hz1, hz2⟩ := info_parts infoIv
  have HH : Hid _ := And.intro h True.intro
  obtain ⟨m, em⟩ : ∃ m, m = R.length := ⟨_, rfl⟩
  have EM : Hid _ := And.intro em True.intro
  rw [← em] at hR ⊢
  clear h em
  go_enter Try.func37, Try.ntmps37
  go_wp2_with (at_make; refine wpList_make_full _ rfl _ _ 62 rfl w.heap.size 71 i0 (.agg #[.int .i64 0, .int .i64 0]) 2 Try.underlying62 hi hz0 hz1 .i64 .i64 (m : Int) (m : Int) m rfl rfl rfl rfl (by rw [hz2]; omega) (by unfold maxLen; omega) (Nat.le_refl _) ?_; intro w1 hown hg)
  have H1 : Hid _ := And.intro hown ((Below.refl w.heap.size w).grown hg (Nat.le_refl _) (by intro k hk; cases hk))
  clear hown hg
  go_loopw [11] (fun i wr => ∃ k : Nat, k ≤ m ∧ i = .int .i64 k ∧ ∃ zs : List Value, zs.length = m * 2 ∧ wr.ownsRow w.heap.size 71 2 (.slice (some ⟨w.heap.size, 0, none⟩) m m) m zs ∧ (∀ j, j < k → zs[j * 2]? = some (.int .i64 (rlo R j)) ∧ zs[j * 2 + 1]? = some (.int .i64 (rhi R j))) ∧ Below w.heap.size w wr) (fun i _ => m - (intOf i).toNat)
  case atStart => exact ⟨0, by omega, rfl, _, by have := H1.out.1.1; simpa using this, H1.out.1, fun j hj => by omega, H1.out.2⟩
  case round =>
    obtain ⟨k, hk, rfl, zs, hzl, ow, hu, hb⟩ := hrel
    by_cases hlt : k < m
    · obtain ⟨b, off, cap, ev, hbl, hc⟩ := HH.out.1.at' (by have := EM.out.1; omega)
      simp only [Value.slice.injEq] at ev
      obtain ⟨rfl, _, rfl⟩ := ev
      obtain ⟨hlo, hhi⟩ := hc k (by have := EM.out.1; omega)
      have c0 := (hb.cell (p := ⟨b, off + k * 2, none⟩) hbl).trans hlo
      have c1 := (hb.cell (p := ⟨b, off + k * 2 + 1, none⟩) hbl).trans hhi
      have hgl : w.heap.size < wr.heap.size := (ow.lt w.heap.size rfl).2
      obtain ⟨x, ex⟩ : ∃ x, x = rlo R k := ⟨_, rfl⟩
      obtain ⟨y, ey⟩ : ∃ y, y = rhi R k := ⟨_, rfl⟩
      rw [← ex] at c0
      rw [← ey] at c1
      have d0 : k * 2 < m * 2 := by omega
      have d1 : k * 2 + 1 < m * 2 := by omega
      obtain ⟨z0, hz0'⟩ : ∃ z, zs[k * 2]? = some z := ⟨zs[k * 2]'(by omega), by simp [hzl, d0]⟩
      obtain ⟨z1, hz1'⟩ : ∃ z, zs[k * 2 + 1]? = some z := ⟨zs[k * 2 + 1]'(by omega), by simp [hzl, d1]⟩
      have r0 := ow.cellAt (k * 2) d0
      have r1 := ow.cellAt (k * 2 + 1) d1
      rw [hz0'] at r0
      rw [hz1'] at r1
      have p0 := ow.frozenAt (k * 2)
      have p1 := ow.frozenAt (k * 2 + 1)
      have H2 : Hid _ := And.intro (And.intro ex ey) (And.intro ow (And.intro hu (And.intro hb (And.intro hzl hgl))))
      clear hlo hhi ow hu hb hc hzl ex ey hz0' hz1'
      go_wp2
      go_roundw
      case rel =>
        refine ⟨k + 1, by omega, by go_num, (zs.set (k * 2) (.int .i64 x)).set (k * 2 + 1) (.int .i64 y), by simp only [List.length_set]; exact H2.out.2.2.2.2.1, owns_below ((H2.out.2.1.stored (k * 2) _).1.stored (k * 2 + 1) _).1 ((Below.refl _ _).alloc (Nat.le_refl _) _), fun j hj => ?_, (((H2.out.2.2.2.1.setCell (p := ⟨w.heap.size, k * 2, none⟩) (Nat.le_refl _) _).setCell (p := ⟨w.heap.size, k * 2 + 1, none⟩) (Nat.le_refl _) _).alloc ((H2.out.2.2.2.1.setCell (p := ⟨w.heap.size, k * 2, none⟩) (Nat.le_refl _) _).setCell (p := ⟨w.heap.size, k * 2 + 1, none⟩) (Nat.le_refl _) _).size _)⟩
        have hl2 : zs.length = m * 2 := H2.out.2.2.2.2.1
        by_cases hjk : j = k
        · subst hjk
          rw [← H2.out.1.1, ← H2.out.1.2]
          refine ⟨?_, ?_⟩
          · rw [List.getElem?_set_ne (by omega), List.getElem?_set_self (by omega)]
          · rw [List.getElem?_set_self (by simp only [List.length_set]; omega)]
        · obtain ⟨u0, u1⟩ := H2.out.2.2.1 j (by omega)
          refine ⟨?_, ?_⟩
          · rw [List.getElem?_set_ne (by omega), List.getElem?_set_ne (by omega)]; exact u0
          · rw [List.getElem?_set_ne (by omega), List.getElem?_set_ne (by omega)]; exact u1
      case measure => simp [intOf]; omega
    · obtain rfl : k = m := by omega
      have H2 : Hid _ := And.intro ow (And.intro hu hb)
      clear ow hu hb
      go_wp2
      go_ret
      exact ⟨rfl, ⟨zs, by rw [← EM.out.1]; exact H2.out.1, fun j hj => H2.out.2.1 j (by have := EM.out.1; omega)⟩, H2.out.2.2⟩
theorem ivOf (v : Value) (R : List (Int × Int)) (w : World) (h : RRow w v R) (hR : R.length ≤ 1048576) :
    Calls Try.prog 37 #[v] w fun e w' => ∃ r, e = .returned r ∧ POwns 71 w' w.heap.size r R ∧ Below w.heap.size w w' :=
  (ivOf' v R w h hR).mono fun e w' ⟨h1, h2, h3⟩ => ⟨_, h1, h2, h3⟩
end Go.Proofs.Ytaodcahkkeobdaa
