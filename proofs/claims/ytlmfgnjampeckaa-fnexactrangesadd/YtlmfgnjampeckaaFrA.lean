import Derived.Test.YtlmfgnjampeckaaAppPair
import Derived.Test.YtlmfgnjampeckaaIvHas
namespace Go.Proofs.Ytlmfgnjampeckaa
open Go.RowKit
set_option linter.unusedVariables false

def vin (x : Int) : Bool := decide (0 ≤ x) && decide (x ≤ 4611686018427387903)
theorem vin_iff (x : Int) : vin x = true ↔ (0 ≤ x ∧ x ≤ 4611686018427387903) := by simp [vin]
theorem vinS (x : Int) (w : World) : Calls Try.prog 27 #[.int .i64 x] w fun e w' => e = .returned (.bool (vin x)) ∧ w' = w := by
  by_cases h0 : 0 ≤ x
  · have e : vin x = decide (x ≤ 4611686018427387903) := by unfold vin; rw [decide_eq_true h0]; rfl
    have E : Hid _ := And.intro e True.intro
    clear e
    go_enter Try.func27, Try.ntmps27
    go_wp2
    go_ret
    exact ⟨by rw [E.out.1]; rfl, rfl⟩
  · have e : vin x = false := by unfold vin; rw [decide_eq_false h0]; rfl
    have E : Hid _ := And.intro e True.intro
    clear e
    have d : decide (0 ≤ x) = false := decide_eq_false h0
    go_enter Try.func27, Try.ntmps27
    go_wp2
    go_ret
    exact ⟨by rw [E.out.1]; rfl, rfl⟩
theorem vinI (x : Int) (w : World) : Calls Try.prog 29 #[.int .i64 x] w fun e w' => e = .returned (.bool (vin x)) ∧ w' = w := by
  by_cases h0 : 0 ≤ x
  · have e : vin x = decide (x ≤ 4611686018427387903) := by unfold vin; rw [decide_eq_true h0]; rfl
    have E : Hid _ := And.intro e True.intro
    clear e
    go_enter Try.func29, Try.ntmps29
    go_wp2
    go_ret
    exact ⟨by rw [E.out.1]; rfl, rfl⟩
  · have e : vin x = false := by unfold vin; rw [decide_eq_false h0]; rfl
    have E : Hid _ := And.intro e True.intro
    clear e
    have d : decide (0 ≤ x) = false := decide_eq_false h0
    go_enter Try.func29, Try.ntmps29
    go_wp2
    go_ret
    exact ⟨by rw [E.out.1]; rfl, rfl⟩
/-- The ranges of R from n on. -/
def fromL (n : Int) (R : List (Int × Int)) : List (Int × Int) := (R.filter fun p => decide (n ≤ p.2)).map fun p => (max n p.1, p.2)
theorem take_succ_pair (R : List (Int × Int)) (k : Nat) (hk : k < R.length) : R.take (k + 1) = R.take k ++ [(rlo R k, rhi R k)] := by
  rw [List.take_add_one]
  congr 1
  simp [rlo, rhi, List.getD, hk]
theorem fromL_yes (n : Int) (R : List (Int × Int)) (k : Nat) (hk : k < R.length) (h : n ≤ rhi R k) : fromL n (R.take (k + 1)) = fromL n (R.take k) ++ [(max n (rlo R k), rhi R k)] := by
  rw [take_succ_pair R k hk]
  unfold fromL
  rw [List.filter_append, List.map_append]
  congr 1
  simp [h]
theorem fromL_no (n : Int) (R : List (Int × Int)) (k : Nat) (hk : k < R.length) (h : ¬ n ≤ rhi R k) : fromL n (R.take (k + 1)) = fromL n (R.take k) := by
  rw [take_succ_pair R k hk]
  unfold fromL
  rw [List.filter_append, List.map_append]
  simp [h]
theorem fromL_length (n : Int) (R : List (Int × Int)) : (fromL n R).length ≤ R.length := by
  unfold fromL
  rw [List.length_map]
  exact List.length_filter_le _ _
theorem vin_true {n : Int} (h : vin n = true) : 0 ≤ n ∧ n ≤ 4611686018427387903 := (vin_iff n).1 h
theorem fromS_badR (v : Value) (R : List (Int × Int)) (n : Int) (w : World) (h : RRow w v R) (hR : R.length ≤ 1048576) (hr : rokV R = false) :
    Calls Try.prog 17 #[v, .int .i64 n] w fun e w' => ∃ r, e = .returned (.tuple #[r, .int .i64 1]) ∧ POwns 36 w' w.heap.size r [] ∧ Below w.heap.size w w' := by
  have OK := rokS v R w h (Nat.le_trans hR (by decide))
  rw [hr] at OK
  have HH : Hid _ := And.intro OK True.intro
  obtain ⟨ao, cp, rfl⟩ := h.form
  clear OK h
  go_enter Try.func17, Try.ntmps17
  go_wp2_with fail
  go_at_call 23
  refine HH.out.1.mono ?_
  rintro e w1 ⟨rfl, b1⟩
  have H1 : Hid _ := And.intro b1 True.intro
  clear b1
  go_wp2
  go_ret2
  exact ⟨_, rfl, POwns.lit0 _ w1 w.heap.size H1.out.1.size, H1.out.1.alloc H1.out.1.size _⟩
theorem fromS_badN (v : Value) (R : List (Int × Int)) (n : Int) (w : World) (h : RRow w v R) (hR : R.length ≤ 1048576) (hr : rokV R = true) (hn : vin n = false) :
    Calls Try.prog 17 #[v, .int .i64 n] w fun e w' => ∃ r, e = .returned (.tuple #[r, .int .i64 1]) ∧ POwns 36 w' w.heap.size r [] ∧ Below w.heap.size w w' := by
  have OK := rokS v R w h (Nat.le_trans hR (by decide))
  rw [hr] at OK
  have VN := fun w => vinS n w
  rw [hn] at VN
  have HH : Hid _ := And.intro OK VN
  obtain ⟨ao, cp, rfl⟩ := h.form
  clear OK h VN
  go_enter Try.func17, Try.ntmps17
  go_wp2_with fail
  go_at_call 23
  refine HH.out.1.mono ?_
  rintro e w1 ⟨rfl, b1⟩
  have H1 : Hid _ := And.intro b1 True.intro
  clear b1
  go_wp2_with (go_at_call 27; refine (HH.out.2 _).mono ?_; rintro e w2 ⟨rfl, hw⟩; subst w2)
  go_ret2
  exact ⟨_, rfl, POwns.lit0 _ w1 w.heap.size H1.out.1.size, H1.out.1.alloc H1.out.1.size _⟩
set_option maxRecDepth 20000 in
set_option maxHeartbeats 4000000 in
theorem fromS_ok (v : Value) (R : List (Int × Int)) (n : Int) (w : World) (h : RRow w v R) (hR : R.length ≤ 1048576) (hr : rokV R = true) (hn : vin n = true) :
    Calls Try.prog 17 #[v, .int .i64 n] w fun e w' => ∃ r, e = .returned (.tuple #[r, .int .i64 0]) ∧ POwns 36 w' w.heap.size r (fromL n R) ∧ Below w.heap.size w w' := by
  have OK := rokS v R w h (Nat.le_trans hR (by decide))
  rw [hr] at OK
  have VN := fun w => vinS n w
  rw [hn] at VN
  obtain ⟨ao, cp, rfl⟩ := h.form
  obtain ⟨m, em⟩ : ∃ m, m = R.length := ⟨_, rfl⟩
  have HH : Hid _ := And.intro OK (And.intro VN h)
  clear OK h VN
  have HG : Hid _ := And.intro em True.intro
  rw [← em] at HH hR ⊢
  clear em
  go_enter Try.func17, Try.ntmps17
  go_wp2_with fail
  go_at_call 23
  refine HH.out.1.mono ?_
  rintro e w1 ⟨rfl, b1⟩
  have H1 : Hid _ := And.intro b1 True.intro
  clear b1
  go_wp2_with (go_at_call 27; refine (HH.out.2.1 _).mono ?_; rintro e w2 ⟨rfl, hw⟩; subst w2)
  go_loopg [6, 7] m (fun q v i wr => ∃ k : Nat, k ≤ m ∧ q = m - k ∧ i = .int .i64 (k : Int) ∧ POwns 36 wr w.heap.size v (fromL n (R.take k)) ∧ Below w.heap.size w wr)
  case atStart => exact ⟨0, by omega, by omega, rfl, POwns.lit0 _ w1 w.heap.size H1.out.1.size, H1.out.1.alloc H1.out.1.size _⟩
  case round =>
    obtain ⟨k, hk, hq, rfl, ow, bw⟩ := hrel
    by_cases hlt : k < m
    · obtain ⟨b, off, cap, ev, hbl, hc⟩ := HH.out.2.2.at' (by have := HG.out.1; omega)
      simp only [Value.slice.injEq] at ev
      obtain ⟨rfl, em2, rfl⟩ := ev
      clear em2
      obtain ⟨x, ex⟩ : ∃ x, x = rlo R k := ⟨_, rfl⟩
      obtain ⟨y, ey⟩ : ∃ y, y = rhi R k := ⟨_, rfl⟩
      have c0 := (bw.cell (p := ⟨b, off + k * 2, none⟩) hbl).trans (hc k (by have := HG.out.1; omega)).1
      have c1 := (bw.cell (p := ⟨b, off + k * 2 + 1, none⟩) hbl).trans (hc k (by have := HG.out.1; omega)).2
      rw [← ex] at c0
      rw [← ey] at c1
      have hbr : b < wr.heap.size := by have := bw.size; omega
      have H2 : Hid _ := And.intro (And.intro ex ey) (And.intro ow bw)
      clear hc ex ey ow bw
      by_cases hy : n ≤ y
      · have bd : Below w.heap.size w wr.drew := below_drewN H2.out.2.2 1
        have D : Hid (Below wr.heap.size wr wr.drew) := below_drewN (Below.refl _ _) 1
        have e0 : wr.drew.cell? ⟨b, off + k * 2, none⟩ = some (.int .i64 x) := c0
        have e1 : wr.drew.cell? ⟨b, off + k * 2 + 1, none⟩ = some (.int .i64 y) := c1
        have hbd : b < wr.drew.heap.size := hbr
        have H3 : Hid _ := And.intro bd (H2.out.2.1.below D.out)
        clear bd
        have HL : Hid ((fromL n (R.take k)).length + 1 ≤ 1099511627776) := by have := fromL_length n (R.take k); rw [List.length_take] at this; exact (by omega : (fromL n (R.take k)).length + 1 ≤ 1099511627776)
        have HZ : Hid (∀ o : Obj, w.heap.size ≤ (wr.drew.alloc o).heap.size) := fun o => Nat.le_trans H3.out.1.size (by simp)
        have hmx : max n x = (if n < x then x else n) := by split <;> omega
        have HM : Hid _ := And.intro hmx True.intro
        clear hmx
        go_wp2_with fail
        go_region_law (refine step_append_pairs rfl (.tmp 31) (.tmp 45) 25 36 rfl Try.underlying25 infoRg' w.heap.size u6 (fromL n (R.take k)) rfl (H3.out.2.below ((Below.refl _ _).alloc (Nat.le_refl _) _)) (.slice (some ⟨wr.heap.size, 0, none⟩) 1 1) [((if n < x then x else n), y)] rfl (lit_row wr.drew (if n < x then x else n) y _) HL.out (HZ.out _) ?_; intro v' w2 o2 g2)
        all_goals
          have HR : Hid _ := And.intro o2 ((H3.out.1.alloc H3.out.1.size _).grown g2 (HZ.out _) (fun q hq => (H2.out.2.1.lt q hq).1))
          clear o2 g2
          generalize (if n < x then x else n) = z at HM HR ⊢
          go_wp2
          go_roundg (m - (k + 1))
          case measure => omega
          case rel => exact ⟨k + 1, by omega, rfl, by go_num, by rw [fromL_yes n R k (by have := HG.out.1; omega) (by rw [← H2.out.1.2]; omega), ← H2.out.1.1, ← H2.out.1.2, HM.out.1]; exact HR.out.1, HR.out.2⟩
      · have d1 : decide (n ≤ y) = false := decide_eq_false hy
        go_wp2
        go_roundg (m - (k + 1))
        case measure => omega
        case rel => exact ⟨k + 1, by omega, rfl, by go_num, by rw [fromL_no n R k (by have := HG.out.1; omega) (by rw [← H2.out.1.2]; omega)]; exact H2.out.2.1, H2.out.2.2⟩
    · obtain rfl : k = m := by omega
      have H2 : Hid _ := And.intro ow bw
      clear ow bw
      go_wp2
      go_ret2
      exact ⟨_, rfl, by have := H2.out.1; rw [HG.out.1, List.take_length] at this; exact this, H2.out.2⟩
end Go.Proofs.Ytlmfgnjampeckaa
