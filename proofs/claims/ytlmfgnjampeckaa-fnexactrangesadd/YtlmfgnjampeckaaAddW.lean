import Derived.Test.YtlmfgnjampeckaaAppFresh
namespace Go.Proofs.Ytlmfgnjampeckaa
open Go.RowKit
set_option linter.unusedVariables false

theorem foldJ_succ (R : List (Int × Int)) (n : Int) (f t : Nat) : foldJ R n f (t + 1) = (min (foldJ R n f t).1 (rlo R (f + t)), max (foldJ R n f t).2 (rhi R (f + t))) := rfl
set_option maxRecDepth 20000 in
set_option maxHeartbeats 8000000 in
theorem withI (g m : Nat) (R : List (Int × Int)) (n : Int) (w : World) (em : R.length = m) (hgl : g < w.heap.size) (hm : m ≤ 64) (hc : ∀ j, j < m → w.cell? ⟨g, 0 + j * 2, none⟩ = some (.int .i64 (rlo R j)) ∧ w.cell? ⟨g, 0 + j * 2 + 1, none⟩ = some (.int .i64 (rhi R j))) (hg : ∀ j, j < R.length → rgood R j) (hn : 0 ≤ n ∧ n ≤ 4611686018427387903) :
    Calls Try.prog 32 #[.slice (some ⟨g, 0, none⟩) m m, .int .i64 n] w fun e w' => ∃ r f b, e = .returned r ∧ FB R n f b ∧ POwns 49 w' w.heap.size r (addL R n f b) ∧ Below w.heap.size w w' := by
  have b0 := al2 w (.cells #[.slice (some ⟨g, 0, none⟩) m m] 44) (.cells #[.int .i64 n] 3)
  have cs := box2_cells w (.slice (some ⟨g, 0, none⟩) m m) (.int .i64 n) 44 3
  have sz := al2_size w (.cells #[.slice (some ⟨g, 0, none⟩) m m] 44) (.cells #[.int .i64 n] 3)
  have hbox : ∀ w' : World, Below ((w.alloc (.cells #[.slice (some ⟨g, 0, none⟩) m m] 44)).alloc (.cells #[.int .i64 n] 3)).heap.size ((w.alloc (.cells #[.slice (some ⟨g, 0, none⟩) m m] 44)).alloc (.cells #[.int .i64 n] 3)) w' →
      w'.cell? ⟨w.heap.size, 0, none⟩ = some (.slice (some ⟨g, 0, none⟩) m m) ∧ w'.cell? ⟨w.heap.size + 1, 0, none⟩ = some (.int .i64 n) ∧ (∀ j, j < m → w'.cell? ⟨g, 0 + j * 2, none⟩ = some (.int .i64 (rlo R j)) ∧ w'.cell? ⟨g, 0 + j * 2 + 1, none⟩ = some (.int .i64 (rhi R j))) ∧ w.heap.size + 1 < w'.heap.size ∧ Below w.heap.size w w' := fun w' bw => by
    have hb := b0.trans (bw.mono b0.size)
    exact ⟨(bw.cell (p := ⟨w.heap.size, 0, none⟩) (by rw [sz]; simp only; omega)).trans cs.1, (bw.cell (p := ⟨w.heap.size + 1, 0, none⟩) (by rw [sz]; simp only; omega)).trans cs.2, fun j hj => ⟨(hb.cell (p := ⟨g, 0 + j * 2, none⟩) hgl).trans (hc j hj).1, (hb.cell (p := ⟨g, 0 + j * 2 + 1, none⟩) hgl).trans (hc j hj).2⟩, by have := bw.size; rw [sz] at this; omega, hb⟩
  have S1 := wi1Search (fun i => decide (n ≤ rhi R i + 1)) m (by omega) (.pointer (some ⟨w.heap.size, 0, none⟩)) (.pointer (some ⟨w.heap.size + 1, 0, none⟩)) ((w.alloc (.cells #[.slice (some ⟨g, 0, none⟩) m m] 44)).alloc (.cells #[.int .i64 n] 3)) (by
      intro i hi w' bw
      obtain ⟨q1, q2, q3, _, _⟩ := hbox w' bw
      have hgi := hg i (by omega)
      unfold rgood at hgi
      exact wi1Clo w.heap.size (w.heap.size + 1) g 0 m m R n i hi (by omega) (by omega) w' q1 q2 (q3 i hi).2)
    (by
      intro i j hij hj hi
      simp only [decide_eq_true_eq] at hi ⊢
      by_cases e : i = j
      · rw [← e]; exact hi
      · have := rsorted hg i j (by omega) (by omega)
        have := (hg j (by omega)).2.1
        omega)
  have S2 := fun (W : World) (bW : Below ((w.alloc (.cells #[.slice (some ⟨g, 0, none⟩) m m] 44)).alloc (.cells #[.int .i64 n] 3)).heap.size ((w.alloc (.cells #[.slice (some ⟨g, 0, none⟩) m m] 44)).alloc (.cells #[.int .i64 n] 3)) W) => wi2Search (fun i => decide (n + 1 < rlo R i)) m (by omega) (.pointer (some ⟨w.heap.size, 0, none⟩)) (.pointer (some ⟨w.heap.size + 1, 0, none⟩)) W (by
      intro i hi w' bw
      obtain ⟨q1, q2, q3, _, _⟩ := hbox w' (bW.trans (bw.mono bW.size))
      exact wi2Clo w.heap.size (w.heap.size + 1) g 0 m m R n i hi (by omega) hn w' q1 q2 (q3 i hi).1)
    (by
      intro i j hij hj hi
      simp only [decide_eq_true_eq] at hi ⊢
      by_cases e : i = j
      · rw [← e]; exact hi
      · have := rsorted hg i j (by omega) (by omega)
        have := (hg i (by omega)).2.1
        omega)
  have HH : Hid _ := And.intro S1 (And.intro S2 (And.intro hbox (And.intro em hg)))
  clear S1 S2 hbox b0 cs sz hc
  have bc := al2 w (.cells #[.slice (some ⟨g, 0, none⟩) m m] 44) (.cells #[.int .i64 n] 3)
  have b00 := box2_cells w (.slice (some ⟨g, 0, none⟩) m m) (.int .i64 n) 44 3
  clear em hg
  go_enter Try.func32, Try.ntmps32
  go_wp2_with fail
  go_at_call 37
  refine HH.out.1.mono ?_
  rintro e w1 ⟨f, hf, rfl, hf0, hf1, bf⟩
  obtain ⟨k0, k1, _, k2, _⟩ := HH.out.2.2.1 w1 bf
  have H1 : Hid _ := And.intro hf0 (And.intro hf1 bf)
  clear hf0 hf1 bf bc b00
  go_wp2_with fail
  go_at_call 37
  refine (HH.out.2.1 w1 H1.out.2.2).mono ?_
  rintro e w2 ⟨b, hb, rfl, hb0, hb1, bb⟩
  have bb2 := H1.out.2.2.trans (bb.mono H1.out.2.2.size)
  obtain ⟨l0, l1, l2, l3, l4⟩ := HH.out.2.2.1 w2 bb2
  have hFB : FB R n f b := ⟨by rw [HH.out.2.2.2.1]; exact hf, by rw [HH.out.2.2.2.1]; exact hb, fun j hj => by have := H1.out.1 j hj; simp only [decide_eq_false_iff_not] at this; omega, fun h => by have := H1.out.2.1 f (Nat.le_refl _) (by have := HH.out.2.2.2.1; omega); simpa using this, fun j hj => by have := hb0 j hj; simp only [decide_eq_false_iff_not] at this; omega, fun h => by have := hb1 b (Nat.le_refl _) (by have := HH.out.2.2.2.1; omega); simpa using this⟩
  have hfb := hFB.le HH.out.2.2.2.2
  have H2 : Hid _ := And.intro hFB (And.intro bb2 (And.intro l2 l4))
  clear hb0 hb1 bb bb2 l2 l4 hFB k0 k1 k2
  have l5 : w.heap.size < w2.heap.size := by omega
  obtain ⟨aq, hif⟩ : ∃ aq, (if m = f then some (⟨g, 0, none⟩ : Addr) else some ⟨g, f * 2, none⟩) = aq := ⟨_, rfl⟩
  go_wp2_with fail
  clear l0 l1
  go_loopg [26] (b - f) (fun q i wr => ∃ t : Nat, t ≤ b - f ∧ q = b - f - t ∧ i = .int .i64 (t : Int) ∧ wr.heap[w2.heap.size]? = some (.cells #[.int .i64 (foldJ R n f t).1, .int .i64 (foldJ R n f t).2] 49) ∧ Below w2.heap.size w2 wr)
  case atStart => exact ⟨0, by omega, by omega, rfl, heap_alloc_new w2 _, (Below.refl _ _).alloc (Nat.le_refl _) _⟩
  case round =>
    obtain ⟨t, ht, hq, rfl, hblk, bw⟩ := hrel
    have hjl : w2.heap.size < wr.heap.size := (Array.getElem?_eq_some_iff.1 hblk).1
    by_cases hlt : t < b - f
    · rw [if_neg (by omega)] at hif
      subst hif
      obtain ⟨x, ex⟩ : ∃ x, x = rlo R (f + t) := ⟨_, rfl⟩
      obtain ⟨y, ey⟩ : ∃ y, y = rhi R (f + t) := ⟨_, rfl⟩
      obtain ⟨p, ep⟩ : ∃ p, p = (foldJ R n f t).1 := ⟨_, rfl⟩
      obtain ⟨c, ec⟩ : ∃ c, c = (foldJ R n f t).2 := ⟨_, rfl⟩
      rw [← ep, ← ec] at hblk
      have hg2 : g < w2.heap.size := by omega
      have hgr : g < wr.heap.size := by omega
      have c0 := (bw.cell (p := ⟨g, 0 + (f + t) * 2, none⟩) hg2).trans (H2.out.2.2.1 (f + t) (by omega)).1
      have c1 := (bw.cell (p := ⟨g, 0 + (f + t) * 2 + 1, none⟩) hg2).trans (H2.out.2.2.1 (f + t) (by omega)).2
      rw [← ex, show 0 + (f + t) * 2 = f * 2 + t * 2 by omega] at c0
      rw [← ey, show 0 + (f + t) * 2 + 1 = f * 2 + t * 2 + 1 by omega] at c1
      have j0 := bk_cell hblk 0
      have j1 := bk_cell hblk 1
      have f0 := bk_free hblk 0
      have f1 := bk_free hblk 1
      obtain ⟨p', ep'⟩ : ∃ p', p' = min p x := ⟨_, rfl⟩
      obtain ⟨c', ec'⟩ : ∃ c', c' = max c y := ⟨_, rfl⟩
      have m1 : (if x < p then x else p) = p' := by rw [ep']; split <;> omega
      have m2 : (if p < x then p else x) = p' := by rw [ep']; split <;> omega
      have m3 : (if c < y then y else c) = c' := by rw [ec']; split <;> omega
      have m4 : (if y < c then c else y) = c' := by rw [ec']; split <;> omega
      have hJ : foldJ R n f (t + 1) = (p', c') := by rw [foldJ_succ, ← ep, ← ec, ← ex, ← ey, ep', ec']
      have H3 : Hid _ := And.intro hJ (And.intro hblk bw)
      clear ex ey ep ec hblk bw ep' ec' hJ
      go_wp2
      go_roundg (b - f - (t + 1))
      case measure => omega
      case rel =>
        have B3 := (H3.out.2.2.setCell (p := ⟨w2.heap.size, 0, none⟩) (Nat.le_refl _) (.int .i64 p')).setCell (p := ⟨w2.heap.size, 1, none⟩) (Nat.le_refl _) (.int .i64 c')
        refine ⟨t + 1, by omega, rfl, by go_num, ?_, B3.alloc B3.size _⟩
        rw [Below.heap_alloc _ _ _ (by simp [World.setCell]; exact hjl), H3.out.1]
        exact bk_set (bk_set H3.out.2.1 0 _) 1 _
    · obtain rfl : t = b - f := by omega
      obtain ⟨p, ep⟩ : ∃ p, p = (foldJ R n f (b - f)).1 := ⟨_, rfl⟩
      obtain ⟨c, ec⟩ : ∃ c, c = (foldJ R n f (b - f)).2 := ⟨_, rfl⟩
      rw [← ep, ← ec] at hblk
      have BW : Below w2.heap.size w2 wr.drew := bw.drew
      have bD : ((w.alloc (.cells #[.slice (some ⟨g, 0, none⟩) m m] 44)).alloc (.cells #[.int .i64 n] 3)).heap.size ≤ w2.heap.size := H2.out.2.1.size
      have bX := fun (W : World) (h : Below wr.drew.heap.size wr.drew W) => HH.out.2.2.1 W (H2.out.2.1.trans ((BW.trans (h.mono BW.size)).mono H2.out.2.1.size))
      have j0 : wr.drew.cell? ⟨w2.heap.size, 0, none⟩ = some (.int .i64 p) := bk_cell hblk 0
      have j1 : wr.drew.cell? ⟨w2.heap.size, 1, none⟩ = some (.int .i64 c) := bk_cell hblk 1
      have jl : w2.heap.size < wr.drew.heap.size := hjl
      have q0 := (bX wr.drew (Below.refl _ _)).1
      have ql : w.heap.size < wr.drew.heap.size := Nat.lt_trans l5 jl
      have q0w : wr.cell? ⟨w.heap.size, 0, none⟩ = some (.slice (some ⟨g, 0, none⟩) m m) := q0
      have qlw : w.heap.size < wr.heap.size := ql
      obtain ⟨ab, hib⟩ : ∃ ab, (if m = b then some (⟨g, 0, none⟩ : Addr) else some ⟨g, b * 2, none⟩) = ab := ⟨_, rfl⟩
      have hab : b < m → ab = some ⟨g, b * 2, none⟩ := fun h => by rw [← hib, if_neg (by omega)]
      have hRf : (R.take f).length = f := by rw [List.length_take, HH.out.2.2.2.1]; omega
      have H3 : Hid _ := And.intro (And.intro ep ec) (And.intro bX (And.intro hab hRf))
      clear ep ec hblk bw bX bD BW hab hRf
      have AL : Hid (∀ o : Obj, Below wr.drew.heap.size wr.drew (wr.drew.alloc o)) := fun o => (Below.refl _ _).alloc (Nat.le_refl _) o
      have CF : Hid (∀ o : Obj, ∀ j, j < (R.take f).length → (wr.drew.alloc o).cell? ⟨g, 0 + j * 2, none⟩ = some (.int .i64 (rlo (R.take f) j)) ∧ (wr.drew.alloc o).cell? ⟨g, 0 + j * 2 + 1, none⟩ = some (.int .i64 (rhi (R.take f) j))) := fun o j hj => by
        have hq := (H3.out.2.1 _ (AL.out o)).2.2.1 j (by rw [H3.out.2.2.2] at hj; omega)
        have e1 := pair_app (R.take f) (R.drop f) j hj
        rw [List.take_append_drop] at e1
        rw [← e1.1, ← e1.2]
        exact hq
      go_wp2_with fail
      go_region_law (first
        | (refine step_append_fresh rfl (.tmp 45) (.tmp 47) 44 49 rfl Try.underlying44 infoIv w.heap.size g f (R.take f) rfl H3.out.2.2.2 (CF.out _) (.slice (some ⟨wr.heap.size, 0, none⟩) 1 1) [(p, c)] rfl (lit_row wr.drew p c _) Nat.zero_lt_one (by simp only [List.length_singleton]; omega) (Nat.le_trans (Nat.le_of_lt ql) (AL.out _).size) ?_; intro v6 w6 o6 g6; have G6 : Hid _ := And.intro o6 ((AL.out _).grown g6 (AL.out _).size (fun k hk => by cases hk)); clear o6 g6; have q6 := (H3.out.2.1 _ G6.out.2).1)
        | (refine step_append_pairs rfl (.tmp 48) (.tmp 51) 44 49 rfl Try.underlying44 infoIv w.heap.size v6 (R.take f ++ [(p, c)]) rfl G6.out.1 (.slice ab (m - b) (m - b)) (R.drop b) rfl (cut_row (g := g) HH.out.2.2.2.1 (Nat.lt_of_lt_of_le (Nat.lt_trans hgl ql) G6.out.2.size) hb (fun j hj => (H3.out.2.1 _ G6.out.2).2.2.1 j (by rw [HH.out.2.2.2.1] at hj; exact hj)) _ _ H3.out.2.2.1) (by simp only [List.length_append, List.length_singleton, List.length_drop, List.length_take]; have := HH.out.2.2.2.1; omega) (Nat.le_trans (Nat.le_of_lt ql) G6.out.2.size) ?_; intro v7 w7 o7 g7))
      all_goals
        have W6 := (H3.out.2.1 _ G6.out.2).2.2.2.2
        have HR : Hid _ := And.intro o7 (W6.grown g7 W6.size (fun k hk => (G6.out.1.lt k hk).1))
        clear o7 g7 W6
        go_wp2
        go_ret
        refine ⟨_, f, b, rfl, H2.out.1, ?_, HR.out.2⟩
        unfold addL
        rw [show foldJ R n f (b - f) = (p, c) from by rw [H3.out.1.1, H3.out.1.2]]
        exact HR.out.1
end Go.Proofs.Ytlmfgnjampeckaa
