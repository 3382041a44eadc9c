import Derived.Test.YtcoakpmfappnlaaMem
namespace Go.Proofs.Ytcoakpmfappnlaa
open Go.RowKit
set_option linter.unusedVariables false

theorem eqBytes_len (va vb : Value) (xs ys : List Int) (w : World) (ha : Row w .u8 va xs) (hb : Row w .u8 vb ys) (hx : xs.length ≤ 140737488355328) (hy : ys.length ≤ 140737488355328) (hn : xs.length ≠ ys.length) :
    Calls Try.prog 66 #[va, vb] w fun e w' => e = .returned (.bool false) ∧ ∃ n, w' = w.drewN n := by
  obtain ⟨ao, ca, rfl⟩ := ha.form
  obtain ⟨bo, cb, rfl⟩ := hb.form
  have ht : (((xs.length : Nat) : Int) != ((ys.length : Nat) : Int)) = true := by simp; omega
  clear ha hb hn
  generalize xs.length = n at *
  generalize ys.length = m at *
  go_enter Try.func66, Try.ntmps66
  go_wp2
  go_ret
  exact ⟨rfl, 0, rfl⟩

theorem eqBytes_nil (va vb : Value) (w : World) (ha : Row w .u8 va []) (hb : Row w .u8 vb []) :
    Calls Try.prog 66 #[va, vb] w fun e w' => e = .returned (.bool true) ∧ ∃ n, w' = w.drewN n := by
  obtain ⟨ao, ca, rfl⟩ := ha.form
  obtain ⟨bo, cb, rfl⟩ := hb.form
  clear ha hb
  go_enter Try.func66, Try.ntmps66
  go_wp2
  refine wp_loop_rounds 1 ?_
  rw [rounds_succ]
  go_wp2
  go_ret
  exact ⟨rfl, 0, rfl⟩

set_option maxHeartbeats 400000 in
theorem eqBytes_core (n : Nat) (xs ys : Nat → Int) (b off ca b' off' cb : Nat) (w : World) (hn : n ≤ 140737488355328)
    (hca : ∀ j, j < n → w.cell? ⟨b, off + j, none⟩ = some (.int .u8 (xs j))) (hcb : ∀ j, j < n → w.cell? ⟨b', off' + j, none⟩ = some (.int .u8 (ys j))) :
    Calls Try.prog 66 #[.slice (some ⟨b, off, none⟩) n ca, .slice (some ⟨b', off', none⟩) n cb] w fun e w' => (∃ t, e = .returned (.bool t) ∧ (t = true ↔ ∀ j, j < n → xs j = ys j)) ∧ ∃ m, w' = w.drewN m := by
  have HA : Hid (∀ j, j < n → w.cell? ⟨b, off + j, none⟩ = some (.int .u8 (xs j))) := hca
  have HB : Hid (∀ j, j < n → w.cell? ⟨b', off' + j, none⟩ = some (.int .u8 (ys j))) := hcb
  clear hca hcb
  go_enter Try.func66, Try.ntmps66
  go_wp2
  go_loopw [5] (fun i wr => ∃ k m : Nat, k ≤ n ∧ i = .int .i64 k ∧ wr = w.drewN m ∧ ∀ j, j < k → xs j = ys j) (fun i _ => n - (intOf i).toNat)
  case atStart => exact ⟨0, 0, Nat.zero_le _, rfl, rfl, fun j h => by omega⟩
  case round =>
    obtain ⟨k, m, hk, rfl, rfl, heq⟩ := hrel
    have HE : Hid (∀ j, j < k → xs j = ys j) := heq
    clear heq
    by_cases hlt : k < n
    · have c1 := HA.out k hlt
      have c2 := HB.out k hlt
      obtain ⟨x, hx⟩ : ∃ x, x = xs k := ⟨_, rfl⟩
      obtain ⟨y, hy⟩ : ∃ y, y = ys k := ⟨_, rfl⟩
      rw [← hx] at c1
      rw [← hy] at c2
      have HX : Hid (x = xs k ∧ y = ys k) := ⟨hx, hy⟩
      clear hx hy
      by_cases hxy : x = y
      · have HXY : Hid (x = y) := hxy
        have ht : (x != y) = false := by simp [hxy]
        clear hxy
        go_wp2
        go_quiet (fail)
        go_wp2
        go_roundw
        case rel =>
          refine ⟨k + 1, _, by omega, by go_num, rfl, fun j hj => ?_⟩
          by_cases hjk : j < k
          · exact HE.out j hjk
          · obtain rfl : j = k := by omega
            rw [← HX.out.1, ← HX.out.2, HXY.out]
        case measure => simp [intOf]; omega
      · have HXY : Hid (¬ x = y) := hxy
        have ht : (x != y) = true := by simp [hxy]
        clear hxy
        go_wp2
        go_quiet (fail)
        go_wp2
        go_ret
        refine ⟨⟨false, rfl, ?_⟩, _, World.drewN_drewN ..⟩
        constructor
        · intro h; cases h
        · intro h; exact absurd (by rw [HX.out.1, HX.out.2]; exact h k hlt) HXY.out
    · go_wp2
      go_ret
      exact ⟨⟨true, rfl, fun _ j hj => HE.out j (by omega), fun _ => rfl⟩, m, rfl⟩

theorem eqBytes (va vb : Value) (xs ys : List Int) (w : World) (ha : Row w .u8 va xs) (hb : Row w .u8 vb ys) (hx : xs.length ≤ 140737488355328) (hy : ys.length ≤ 140737488355328) :
    Calls Try.prog 66 #[va, vb] w fun e w' => e = .returned (.bool (decide (xs = ys))) ∧ ∃ n, w' = w.drewN n := by
  by_cases hl : xs.length = ys.length
  · by_cases h0 : 0 < xs.length
    · obtain ⟨b, off, ca, rfl, _, hca⟩ := ha.at h0
      obtain ⟨b', off', cb, rfl, _, hcb⟩ := hb.at (by omega)
      have := eqBytes_core xs.length (fun j => xs.getD j 0) (fun j => ys.getD j 0) b off ca b' off' cb w hx hca (fun j hj => hcb j (by omega))
      rw [← hl]
      refine this.mono ?_
      rintro e w' ⟨⟨t, rfl, ht⟩, hw⟩
      refine ⟨?_, hw⟩
      have : t = decide (xs = ys) := by
        rw [Bool.eq_iff_iff, ht, decide_eq_true_eq]
        constructor
        · intro h
          apply List.ext_getElem hl
          intro i h1 h2
          have := h i h1
          simpa [List.getD, h1, h2] using this
        · rintro rfl j _; rfl
      rw [this]
    · obtain rfl : xs = [] := List.eq_nil_of_length_eq_zero (by omega)
      obtain rfl : ys = [] := List.eq_nil_of_length_eq_zero (by simpa using hl.symm)
      exact eqBytes_nil va vb w ha hb
  · have e : decide (xs = ys) = false := by
      rw [decide_eq_false_iff_not]; rintro rfl; exact hl rfl
    rw [e]
    exact eqBytes_len va vb xs ys w ha hb hx hy hl

theorem eqBytes_same (va vb : Value) (xs : List Int) (w : World) (ha : Row w .u8 va xs) (hb : Row w .u8 vb xs) (hx : xs.length ≤ 140737488355328) :
    Calls Try.prog 66 #[va, vb] w fun e w' => e = .returned (.bool true) ∧ ∃ n, w' = w.drewN n := by
  refine (eqBytes va vb xs xs w ha hb hx hx).mono ?_
  rintro e w' ⟨rfl, h⟩
  exact ⟨by simp, h⟩
end Go.Proofs.Ytcoakpmfappnlaa
