import Derived.Test.YtaodcahkkeobdaaToBytes
import Derived.Test.YtaodcahkkeobdaaEqBytes
import Derived.Test.YtaodcahkkeobdaaBlocks
import Derived.Deep.RegionWith
import Derived.Deep.CutRange
namespace Go.Proofs.Ytaodcahkkeobdaa
open Go.RowKit
set_option linter.unusedVariables false

/-- A list of ranges: low and high of the place j. -/
abbrev rlo (R : List (Int × Int)) (j : Nat) : Int := (R.getD j (0, 0)).1
abbrev rhi (R : List (Int × Int)) (j : Nat) : Int := (R.getD j (0, 0)).2
/-- A list of ranges, as a slice of pairs holds it. -/
def RRow (w : World) (v : Value) (R : List (Int × Int)) : Prop :=
  (R = [] ∧ ∃ ao cap, v = .slice ao 0 cap) ∨
  (∃ b off cap, v = .slice (some ⟨b, off, none⟩) R.length cap ∧ b < w.heap.size ∧ ∀ j, j < R.length → w.cell? ⟨b, off + j * 2, none⟩ = some (.int .i64 (rlo R j)) ∧ w.cell? ⟨b, off + j * 2 + 1, none⟩ = some (.int .i64 (rhi R j)))
theorem RRow.form {w : World} {v : Value} {R : List (Int × Int)} (h : RRow w v R) : ∃ ao cap, v = .slice ao R.length cap := by
  rcases h with ⟨rfl, ao, cap, rfl⟩ | ⟨b, off, cap, rfl, _⟩
  · exact ⟨ao, cap, rfl⟩
  · exact ⟨_, _, rfl⟩
theorem RRow.below {w w' : World} {v : Value} {R : List (Int × Int)} (h : RRow w v R) (hb : Below w.heap.size w w') : RRow w' v R := by
  rcases h with h | ⟨b, off, cap, rfl, hl, hc⟩
  · exact Or.inl h
  · refine Or.inr ⟨b, off, cap, rfl, by have := hb.size; omega, fun j hj => ?_⟩
    exact ⟨(hb.cell (p := ⟨b, off + j * 2, none⟩) hl).trans (hc j hj).1, (hb.cell (p := ⟨b, off + j * 2 + 1, none⟩) hl).trans (hc j hj).2⟩
theorem RRow.at' {w : World} {v : Value} {R : List (Int × Int)} (h : RRow w v R) (h0 : 0 < R.length) : ∃ b off cap, v = .slice (some ⟨b, off, none⟩) R.length cap ∧ b < w.heap.size ∧ ∀ j, j < R.length → w.cell? ⟨b, off + j * 2, none⟩ = some (.int .i64 (rlo R j)) ∧ w.cell? ⟨b, off + j * 2 + 1, none⟩ = some (.int .i64 (rhi R j)) := by
  rcases h with ⟨rfl, _⟩ | h
  · simp at h0
  · exact h
/-- A list of ranges of one's own. -/
def ROwns (w : World) (base : Nat) (v : Value) (R : List (Int × Int)) : Prop :=
  ∃ zs : List Value, w.ownsRow base 50 2 v R.length zs ∧ ∀ j, j < R.length → zs[j * 2]? = some (.int .i64 (rlo R j)) ∧ zs[j * 2 + 1]? = some (.int .i64 (rhi R j))
theorem ROwns.row {w : World} {base : Nat} {v : Value} {R : List (Int × Int)} (h : ROwns w base v R) : RRow w v R := by
  obtain ⟨zs, ho, hz⟩ := h
  by_cases h0 : R.length = 0
  · have hR : R = [] := List.eq_nil_of_length_eq_zero h0
    rcases ho.2 with ⟨rfl, _⟩ | ⟨g, cap, cur, rfl, _⟩
    · exact Or.inl ⟨hR, _, _, rfl⟩
    · exact Or.inl ⟨hR, _, _, by rw [h0]⟩
  · have ho' := ho
    rcases ho.2 with ⟨_, h1⟩ | ⟨g, cap, cur, rfl, hb, hg, _⟩
    · omega
    · refine Or.inr ⟨g, 0, cap, rfl, (Array.getElem?_eq_some_iff.1 hg).1, fun j hj => ?_⟩
      have e0 := ho'.cellAt (j * 2) (by omega)
      have e1 := ho'.cellAt (j * 2 + 1) (by omega)
      rw [Nat.zero_add]
      exact ⟨e0.trans (hz j hj).1, e1.trans (hz j hj).2⟩
theorem ROwns.below {w w' : World} {base : Nat} {v : Value} {R : List (Int × Int)} (h : ROwns w base v R) (hb : Below w.heap.size w w') : ROwns w' base v R := by
  obtain ⟨zs, ho, hz⟩ := h
  exact ⟨zs, owns_below ho hb, hz⟩
theorem ROwns.mono {w : World} {base base' : Nat} {v : Value} {R : List (Int × Int)} (h : ROwns w base v R) (hb : base' ≤ base) : ROwns w base' v R := by
  obtain ⟨zs, ho, hz⟩ := h
  exact ⟨zs, owns_mono ho hb, hz⟩
theorem ROwns.cell {w : World} {base g i : Nat} {u v : Value} {R : List (Int × Int)} (h : ROwns w base v R) (hb : g < base) : ROwns (w.setCell ⟨g, i, none⟩ u) base v R := by
  obtain ⟨zs, ho, hz⟩ := h
  exact ⟨zs, (Only.setCell (w := w) ⟨g, i, none⟩ u).owns ho (fun k hk e => by have := (ho.lt k hk).1; have := Option.some.inj e; simp only at this; omega), hz⟩
theorem infoRg : (Try.prog.info? 50).map (fun i => (i.zero, i.size, i.bytes)) = some (some (.agg #[.int .i64 0, .int .i64 0]), 2, 16) := by kernel_rfl
theorem infoR2 : (Try.prog.info? 50).map (·.size) = some 2 := by kernel_rfl
theorem hpB3 (w : World) (a b c : Obj) : (((w.alloc a).alloc b).alloc c).heap[w.heap.size + 1]? = some b := by
  rw [Below.heap_alloc _ _ _ (by simp)]
  have := heap_alloc_new (w.alloc a) b
  simpa using this
theorem alR3 (w : World) (a b c : Obj) : Below w.heap.size w (((w.alloc a).alloc b).alloc c) := (((Below.refl _ _).alloc (Nat.le_refl _) _).alloc (by simp) _).alloc (by simp; omega) _
theorem toRng (x y : Int) (w : World) : Calls Try.prog 24 #[.agg #[.int .i64 x, .int .i64 y]] w fun e w' => e = .returned (.agg #[.int .i64 x, .int .i64 y]) ∧ Below w.heap.size w w' := by
  go_enter Try.func24, Try.ntmps24
  go_wp2
  refine bodyPost_ret (v := .agg #[.int .i64 x, .int .i64 y]) ?_ rfl ?_
  · refine results_cell_row (t := 50) rfl _ _ (w.heap.size + 1) _ (fr := (0, 0)) _ rfl ?_ Try.underlying50 rfl infoR2
    exact hpB3 _ _ _ _
  exact ⟨rfl, alR3 _ _ _ _⟩
theorem eqRng (x y : Int) (w : World) : Calls Try.prog 28 #[.agg #[.int .i64 x, .int .i64 y], .agg #[.int .i64 x, .int .i64 y]] w fun e w' => e = .returned (.bool true) ∧ Below w.heap.size w w' := by
  have hx : (x != x) = false := by simp
  have hy : (y != y) = false := by simp
  go_enter Try.func28, Try.ntmps28
  go_wp2
  go_ret
  exact ⟨rfl, ((Below.refl _ _).alloc (Nat.le_refl _) _).alloc (by simp) _⟩
theorem szRng_fit (v : Value) (R : List (Int × Int)) (l : Int) (w : World) (h : RRow w v R) (hl : l ≤ 9223372036854775807) (hf : (R.length : Int) ≤ l) : Calls Try.prog 5 #[v, .int .i64 l] w fun e w' => e = .returned (.int .i64 (l - (R.length : Int))) ∧ w' = w := by
  obtain ⟨ao, cp, rfl⟩ := h.form
  clear h
  generalize R.length = m at hf ⊢
  have hd : 0 ≤ l - (m : Int) := by omega
  go_enter Try.func5, Try.ntmps5
  go_wp2
  go_ret
  exact ⟨rfl, rfl⟩
theorem szRng_over (v : Value) (R : List (Int × Int)) (l : Int) (w : World) (h : RRow w v R) (hl : 0 ≤ l) (hR : R.length ≤ 9223372036854775807) (hf : l < (R.length : Int)) : Calls Try.prog 5 #[v, .int .i64 l] w fun e w' => e = .returned (.int .i64 (-1)) ∧ w' = w := by
  obtain ⟨ao, cp, rfl⟩ := h.form
  clear h
  generalize R.length = m at hf hR ⊢
  have hd : l - (m : Int) < 0 := by omega
  go_enter Try.func5, Try.ntmps5
  go_wp2
  go_ret
  exact ⟨rfl, rfl⟩
set_option maxRecDepth 20000 in
set_option maxHeartbeats 2000000 in
theorem toRngs (v : Value) (R : List (Int × Int)) (w : World) (h : RRow w v R) (hR : R.length ≤ 1048576) :
    Calls Try.prog 7 #[v] w fun e w' => ∃ r, e = .returned r ∧ ROwns w' w.heap.size r R ∧ Below w.heap.size w w' := by
  obtain ⟨ao, cp, rfl⟩ := h.form
  obtain ⟨i0, hi, hz0, hz1, hz2⟩ := info_parts infoRg
  have HH : Hid _ := And.intro h True.intro
  obtain ⟨m, em⟩ : ∃ m, m = R.length := ⟨_, rfl⟩
  have EM : Hid _ := And.intro em True.intro
  rw [← em] at hR ⊢
  clear h em
  go_enter Try.func7, Try.ntmps7
  go_wp2_with (at_make; refine wpList_make_full _ rfl _ _ 25 rfl w.heap.size 50 i0 (.agg #[.int .i64 0, .int .i64 0]) 2 Try.underlying25 hi hz0 hz1 .i64 .i64 (m : Int) (m : Int) m rfl rfl rfl rfl (by rw [hz2]; omega) (by unfold maxLen; omega) (Nat.le_refl _) ?_; intro w1 hown hg)
  have H1 : Hid _ := And.intro hown ((Below.refl w.heap.size w).grown hg (Nat.le_refl _) (by intro k hk; cases hk))
  clear hown hg
  go_loopw [4] (fun i wr => ∃ k : Nat, k ≤ m ∧ i = .int .i64 k ∧ ∃ zs : List Value, zs.length = m * 2 ∧ wr.ownsRow w.heap.size 50 2 (.slice (some ⟨w.heap.size, 0, none⟩) m m) m zs ∧ (∀ j, j < k → zs[j * 2]? = some (.int .i64 (rlo R j)) ∧ zs[j * 2 + 1]? = some (.int .i64 (rhi R j))) ∧ Below w.heap.size w wr) (fun i _ => m - (intOf i).toNat)
  case atStart => exact ⟨0, by omega, rfl, _, by have := H1.out.1.1; simpa using this, H1.out.1, fun j hj => by omega, H1.out.2⟩
  case round =>
    obtain ⟨k, hk, rfl, zs, hzl, ow, hu, hb⟩ := hrel
    by_cases hlt : k < m
    · obtain ⟨b, off, cap, ev, hbl, hc⟩ := HH.out.1.at' (by have := EM.out.1; omega)
      simp only [Value.slice.injEq] at ev
      obtain ⟨rfl, _, rfl⟩ := ev
      obtain ⟨hlo, hhi⟩ := hc k (by have := EM.out.1; omega)
      have c0 := (hb.cell (p := ⟨b, off + k * 2, none⟩) hbl).trans hlo
      have c1 := (hb.cell (p := ⟨b, off + k * 2 + 1, none⟩) hbl).trans hhi
      have hgl : w.heap.size < wr.heap.size := (ow.lt w.heap.size rfl).2
      obtain ⟨x, ex⟩ : ∃ x, x = rlo R k := ⟨_, rfl⟩
      obtain ⟨y, ey⟩ : ∃ y, y = rhi R k := ⟨_, rfl⟩
      rw [← ex] at c0
      rw [← ey] at c1
      have H2 : Hid _ := And.intro (And.intro ex ey) (And.intro ow (And.intro hu (And.intro hb (And.intro hzl hgl))))
      clear hlo hhi ow hu hb hc hzl ex ey
      go_wp2_with fail
      go_at_call 24
      refine (toRng x y wr).mono ?_
      rintro e w2 ⟨rfl, bq⟩
      have ow2 := owns_below H2.out.2.1 bq
      have d0 : k * 2 < m * 2 := by omega
      have d1 : k * 2 + 1 < m * 2 := by omega
      have s0 : w2.cell? ⟨w.heap.size, k * 2, none⟩ = zs[k * 2]? := ow2.cellAt (k * 2) d0
      have s1 : w2.cell? ⟨w.heap.size, k * 2 + 1, none⟩ = zs[k * 2 + 1]? := ow2.cellAt (k * 2 + 1) d1
      obtain ⟨z0, hz0'⟩ : ∃ z, zs[k * 2]? = some z := ⟨zs[k * 2]'(by have := H2.out.2.2.2.2.1; omega), by simp [H2.out.2.2.2.2.1, d0]⟩
      obtain ⟨z1, hz1'⟩ : ∃ z, zs[k * 2 + 1]? = some z := ⟨zs[k * 2 + 1]'(by have := H2.out.2.2.2.2.1; omega), by simp [H2.out.2.2.2.2.1, d1]⟩
      rw [hz0'] at s0
      rw [hz1'] at s1
      have f0 := ow2.frozenAt (k * 2)
      have f1 := ow2.frozenAt (k * 2 + 1)
      have H3 : Hid _ := And.intro ow2 bq
      clear ow2 bq hz0' hz1'
      go_wp2
      go_roundw
      case rel =>
        refine ⟨k + 1, by omega, by go_num, (zs.set (k * 2) (.int .i64 x)).set (k * 2 + 1) (.int .i64 y), by simp only [List.length_set]; exact H2.out.2.2.2.2.1, ((H3.out.1.stored (k * 2) _).1.stored (k * 2 + 1) _).1, fun j hj => ?_, ((H2.out.2.2.2.1.trans (H3.out.2.mono H2.out.2.2.2.1.size)).setCell (Nat.le_refl _) _).setCell (Nat.le_refl _) _⟩
        have hl2 : zs.length = m * 2 := H2.out.2.2.2.2.1
        by_cases hjk : j = k
        · subst hjk
          rw [H2.out.1.1, H2.out.1.2]
          refine ⟨?_, ?_⟩
          · rw [List.getElem?_set_ne (by omega), List.getElem?_set_self (by omega)]
          · rw [List.getElem?_set_self (by simp only [List.length_set]; omega)]
        · obtain ⟨u0, u1⟩ := H2.out.2.2.1 j (by omega)
          refine ⟨?_, ?_⟩
          · rw [List.getElem?_set_ne (by omega), List.getElem?_set_ne (by omega)]; exact u0
          · rw [List.getElem?_set_ne (by omega), List.getElem?_set_ne (by omega)]; exact u1
      case measure => simp [intOf]; omega
    · obtain rfl : k = m := by omega
      have H2 : Hid _ := And.intro ow (And.intro hu hb)
      clear ow hu hb
      go_wp2
      go_ret
      exact ⟨_, rfl, ⟨zs, by rw [← EM.out.1]; exact H2.out.1, fun j hj => H2.out.2.1 j (by have := EM.out.1; omega)⟩, H2.out.2.2⟩
theorem eqRngs_nil (va vb : Value) (w : World) (ha : RRow w va []) (hb : RRow w vb []) :
    Calls Try.prog 10 #[va, vb] w fun e w' => e = .returned (.bool true) ∧ Below w.heap.size w w' := by
  obtain ⟨ao, ca, rfl⟩ := ha.form
  obtain ⟨bo, cb, rfl⟩ := hb.form
  clear ha hb
  go_enter Try.func10, Try.ntmps10
  go_wp2_with fail
  refine wp_loop_rounds 1 ?_
  rw [rounds_succ]
  go_wp2
  go_ret
  exact ⟨rfl, Below.refl _ _⟩
set_option maxRecDepth 20000 in
set_option maxHeartbeats 2000000 in
theorem eqRngs_core (R : List (Int × Int)) (m b off ca b' off' cb : Nat) (w : World) (hm : m ≤ 1048576) (hbl : b < w.heap.size) (hbl' : b' < w.heap.size)
    (hc : ∀ j, j < m → w.cell? ⟨b, off + j * 2, none⟩ = some (.int .i64 (rlo R j)) ∧ w.cell? ⟨b, off + j * 2 + 1, none⟩ = some (.int .i64 (rhi R j))) (hc' : ∀ j, j < m → w.cell? ⟨b', off' + j * 2, none⟩ = some (.int .i64 (rlo R j)) ∧ w.cell? ⟨b', off' + j * 2 + 1, none⟩ = some (.int .i64 (rhi R j))) :
    Calls Try.prog 10 #[.slice (some ⟨b, off, none⟩) m ca, .slice (some ⟨b', off', none⟩) m cb] w fun e w' => e = .returned (.bool true) ∧ Below w.heap.size w w' := by
  have HH : Hid _ := And.intro hc hc'
  clear hc hc'
  have hmm : ((m : Int) != (m : Int)) = false := by simp
  go_enter Try.func10, Try.ntmps10
  go_wp2_with fail
  go_loopg [5] m (fun q i wr => ∃ k : Nat, k ≤ m ∧ q = m - k ∧ i = .int .i64 (k : Int) ∧ Below w.heap.size w wr)
  case atStart => exact ⟨0, by omega, by omega, rfl, Below.refl _ _⟩
  case round =>
    obtain ⟨k, hk, hq, rfl, bw⟩ := hrel
    by_cases hlt : k < m
    · have bd : Below w.heap.size w wr.drew := below_drewN bw 1
      obtain ⟨x, ex⟩ : ∃ x, x = rlo R k := ⟨_, rfl⟩
      obtain ⟨y, ey⟩ : ∃ y, y = rhi R k := ⟨_, rfl⟩
      have c0 := (bd.cell (p := ⟨b, off + k * 2, none⟩) hbl).trans (HH.out.1 k hlt).1
      have c1 := (bd.cell (p := ⟨b, off + k * 2 + 1, none⟩) hbl).trans (HH.out.1 k hlt).2
      have c2 := (bd.cell (p := ⟨b', off' + k * 2, none⟩) hbl').trans (HH.out.2 k hlt).1
      have c3 := (bd.cell (p := ⟨b', off' + k * 2 + 1, none⟩) hbl').trans (HH.out.2 k hlt).2
      rw [← ex] at c0 c2
      rw [← ey] at c1 c3
      have H4 : Hid _ := And.intro (eqRng x y wr.drew) bd
      clear bd ex ey
      go_upto_region 6 with fail
      go_cut [26] from 11 to 26 (fun cv wx => cv = .bool false ∧ Below w.heap.size w wx)
      case first =>
        go_region_with (go_at_call 28; refine H4.out.1.mono ?_; rintro e wz ⟨rfl, hz⟩)
        all_goals (go_wp2_with fail; go_meet; exact ⟨rfl, H4.out.2.trans (hz.mono H4.out.2.size)⟩)
      case rest =>
      obtain ⟨rfl, bc⟩ := hcut
      have H5 : Hid _ := And.intro bc True.intro
      clear bc bw c0 c1 c2 c3
      go_wp2
      go_roundg (m - (k + 1))
      case measure => omega
      case rel => exact ⟨k + 1, by omega, rfl, by go_num, H5.out.1⟩
    · have H4 : Hid _ := And.intro bw True.intro
      clear bw
      go_wp2
      go_ret
      exact ⟨rfl, H4.out.1⟩
theorem eqRngs (va vb : Value) (R : List (Int × Int)) (w : World) (ha : RRow w va R) (hb : RRow w vb R) (hm : R.length ≤ 1048576) :
    Calls Try.prog 10 #[va, vb] w fun e w' => e = .returned (.bool true) ∧ Below w.heap.size w w' := by
  by_cases h0 : 0 < R.length
  · obtain ⟨b, off, ca, rfl, hbl, hc⟩ := ha.at' h0
    obtain ⟨b', off', cb, rfl, hbl', hc'⟩ := hb.at' h0
    exact eqRngs_core R _ b off ca b' off' cb w hm hbl hbl' hc hc'
  · obtain rfl : R = [] := List.eq_nil_of_length_eq_zero (by omega)
    exact eqRngs_nil va vb w ha hb
end Go.Proofs.Ytaodcahkkeobdaa
