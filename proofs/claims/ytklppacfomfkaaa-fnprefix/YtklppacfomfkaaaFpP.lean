import Derived.Test.YtklppacfomfkaaaGpM
namespace Go.Proofs.Ytklppacfomfkaaa
open Go.RowKit
set_option linter.unusedVariables false

theorem getD_drop (xs ys : List Int) (q : Nat) (x : Int) (h : xs.drop q = x :: ys) : q < xs.length ∧ xs.getD q 0 = x ∧ xs.drop (q + 1) = ys := by
  have h1 : q < xs.length := by
    by_cases hq : q < xs.length
    · exact hq
    · rw [List.drop_eq_nil_of_le (by omega)] at h; cases h
  rw [List.drop_eq_getElem_cons h1] at h
  injection h with h2 h3
  exact ⟨h1, by simp [List.getD, h1, h2], h3⟩
theorem mul_split (y x u : Int) : y + x % 128 * u + x / 128 * (u * 128) = y + x * u := by
  have h := Int.mul_ediv_add_emod x 128
  calc y + x % 128 * u + x / 128 * (u * 128) = y + (128 * (x / 128) + x % 128) * u := by grind
    _ = y + x * u := by rw [h]
theorem room_ok (y x u : Int) (hu : 1 ≤ u) (h : y + x * u ≤ 4611686018427387903) : ¬ (4611686018427387903 - y) / u < x := by
  have := (Int.le_ediv_iff_mul_le (show 0 < u by omega)).2 (show x * u ≤ 4611686018427387903 - y by omega)
  omega
theorem gp_pcs (p : Nat) : ∀ (n k m : Nat) (y x : Int) (xs : List Int), xs.drop (p + k) = pcs n x → 0 ≤ x → x < 128 ^ (n + 1) → y + x * un k ≤ 4611686018427387903 →
    gpL xs p (n + 1 + m) k y = (y + x * un k, (xs.length : Int), 0) := by
  have last : ∀ (n k m : Nat) (y x : Int) (xs : List Int), xs.drop (p + k) = [x] → 0 ≤ x → x < 128 → y + x * un k ≤ 4611686018427387903 → gpL xs p (n + 1 + m) k y = (y + x * un k, (xs.length : Int), 0) := by
    intro n k m y x xs hd h0 h1 hs
    obtain ⟨hl, hg, ht⟩ := getD_drop xs [] (p + k) x hd
    have hlen : xs.length = p + k + 1 := by
      have := congrArg List.length hd
      simp at this
      omega
    have hr := room_ok y x (un k) (un_lo k) hs
    rw [show n + 1 + m = (n + m) + 1 by omega]
    simp only [gpL, show ¬ xs.length ≤ p + k by omega, if_false, hg, show x % 128 = x by omega, hr, h1, if_true]
    rw [hlen]; simp
  intro n
  induction n with
  | zero =>
    intro k m y x xs hd h0 h1 hs
    exact last 0 k m y x xs hd h0 (by simpa using h1) hs
  | succ n ih =>
    intro k m y x xs hd h0 h1 hs
    by_cases hx : x < 128
    · rw [pcs_lo _ _ hx] at hd
      exact last (n + 1) k m y x xs hd h0 hx hs
    · rw [pcs_hi _ _ (by omega)] at hd
      obtain ⟨hl, hg, ht⟩ := getD_drop xs _ (p + k) _ hd
      have u0 := un_lo k
      have hple : x % 128 * un k ≤ x * un k := Int.mul_le_mul_of_nonneg_right (by omega) (by omega)
      have hr := room_ok y (x % 128) (un k) u0 (by omega)
      have hsp := mul_split y x (un k)
      have hn := ih (k + 1) m (y + x % 128 * un k) (x / 128) xs (by rw [← Nat.add_assoc]; exact ht) (by omega) (by
        have : (128 : Int) ^ (n + 1 + 1) = 128 ^ (n + 1) * 128 := Int.pow_succ ..
        omega) (by rw [un_succ, hsp]; exact hs)
      rw [un_succ, hsp] at hn
      rw [← hn, show n + 1 + 1 + m = (n + 1 + m) + 1 by omega]
      have hm : (128 + x % 128) % 128 = x % 128 := by omega
      simp only [gpL, show ¬ xs.length ≤ p + k by omega, if_false, hg, hm, hr, show ¬ (128 + x % 128 < 128) by omega]
theorem pcs_ne (n : Nat) (x : Int) : pcs n x ≠ [] := by
  cases n with
  | zero => simp [pcs]
  | succ n => unfold pcs; split <;> simp
theorem gp_cut (p : Nat) : ∀ (n k m : Nat) (y x : Int) (xs : List Int), xs.drop (p + k) = (pcs n x).dropLast → 0 ≤ x → x < 128 ^ (n + 1) → y + x * un k ≤ 4611686018427387903 →
    gpL xs p (n + 1 + m) k y = (0, 0, 2) := by
  have last : ∀ (n k m : Nat) (y : Int) (xs : List Int), xs.drop (p + k) = [] → gpL xs p (n + 1 + m) k y = (0, 0, 2) := by
    intro n k m y xs hd
    have hl := List.drop_eq_nil_iff.1 hd
    rw [show n + 1 + m = (n + m) + 1 by omega]
    simp only [gpL, hl, if_true]
  intro n
  induction n with
  | zero =>
    intro k m y x xs hd h0 h1 hs
    exact last 0 k m y xs (by simpa [pcs] using hd)
  | succ n ih =>
    intro k m y x xs hd h0 h1 hs
    by_cases hx : x < 128
    · rw [pcs_lo _ _ hx] at hd
      exact last (n + 1) k m y xs (by simpa using hd)
    · rw [pcs_hi _ _ (by omega), List.dropLast_cons_of_ne_nil (pcs_ne _ _)] at hd
      obtain ⟨hl, hg, ht⟩ := getD_drop xs _ (p + k) _ hd
      have u0 := un_lo k
      have hple : x % 128 * un k ≤ x * un k := Int.mul_le_mul_of_nonneg_right (by omega) (by omega)
      have hr := room_ok y (x % 128) (un k) u0 (by omega)
      have hsp := mul_split y x (un k)
      have hn := ih (k + 1) m (y + x % 128 * un k) (x / 128) xs (by rw [← Nat.add_assoc]; exact ht) (by omega) (by
        have : (128 : Int) ^ (n + 1 + 1) = 128 ^ (n + 1) * 128 := Int.pow_succ ..
        omega) (by rw [un_succ, hsp]; exact hs)
      rw [← hn, show n + 1 + 1 + m = (n + 1 + m) + 1 by omega]
      have hm : (128 + x % 128) % 128 = x % 128 := by omega
      simp only [gpL, show ¬ xs.length ≤ p + k by omega, if_false, hg, hm, hr, show ¬ (128 + x % 128 < 128) by omega]
theorem mod_one (h v f : Int) (hm : h % f = 0) (h0 : 0 ≤ v) (h1 : v < f) : (h + v) % f = v := by
  rw [Int.add_emod, hm, Int.zero_add, Int.emod_emod_of_dvd _ (Int.dvd_refl f), Int.emod_eq_of_lt h0 h1]
theorem pfx_back (v f h : Int) (h0 : 0 ≤ v) (h1 : v ≤ 4611686018427387903) (f2 : 2 ≤ f) (hm : h % f = 0) (xs : List Int) (p : Nat) (hd : xs.drop p = pfx v f h) : gpR xs p f = (v, (xs.length : Int), 0) := by
  unfold pfx at hd
  unfold gpR
  by_cases hlt : v < f - 1
  · rw [if_pos hlt] at hd
    obtain ⟨hl, hg, ht⟩ := getD_drop xs _ p _ hd
    have hlen : xs.length = p + 1 := by
      have := congrArg List.length hd
      simp at this
      omega
    rw [if_neg (by omega), hg, mod_one h v f hm h0 (by omega), if_pos hlt, hlen]
    simp
  · rw [if_neg hlt] at hd
    obtain ⟨hl, hg, ht⟩ := getD_drop xs _ p _ hd
    rw [if_neg (by omega), hg, mod_one h (f - 1) f hm (by omega) (by omega), if_neg (by omega)]
    have := gp_pcs (p + 1) 9 0 0 (f - 1) (v - (f - 1)) xs ht (by omega) (by omega) (by rw [un_zero]; omega)
    rw [un_zero] at this
    rw [show (10 : Nat) = 9 + 1 + 0 from rfl, this]
    congr 1; omega
theorem pfx_cut (v f h : Int) (h0 : 0 ≤ v) (h1 : v ≤ 4611686018427387903) (f2 : 2 ≤ f) (hm : h % f = 0) : gpR (pfx v f h).dropLast 0 f = (0, 0, 2) := by
  unfold gpR
  by_cases hlt : v < f - 1
  · simp [pfx, hlt]
  · have e : (pfx v f h).dropLast = (h + (f - 1)) :: (pcs 9 (v - (f - 1))).dropLast := by
      simp only [pfx, hlt, if_false]
      rw [List.dropLast_cons_of_ne_nil (pcs_ne _ _)]
    rw [e]
    rw [if_neg (by simp)]
    simp only [List.getD_cons_zero]
    rw [mod_one h (f - 1) f hm (by omega) (by omega), if_neg (by omega)]
    exact gp_cut 1 9 0 0 (f - 1) (v - (f - 1)) _ rfl (by omega) (by omega) (by rw [un_zero]; omega)
theorem pfx_ne (v f h : Int) : 0 < (pfx v f h).length := by unfold pfx; split <;> simp
theorem pfx_bytes (v f h : Int) (h0 : 0 ≤ v) (h1 : v ≤ 4611686018427387903) (f2 : 2 ≤ f) (hh : 0 ≤ h) (hf : h + f ≤ 256) : Bytes (pfx v f h) := by
  unfold pfx
  by_cases hlt : v < f - 1
  · rw [if_pos hlt]; intro x hx; simp at hx; subst hx; omega
  · rw [if_neg hlt]
    intro x hx
    rcases List.mem_cons.1 hx with rfl | hx
    · omega
    · exact pcs_bytes 9 (v - (f - 1)) (by omega) (by omega) x hx
end Go.Proofs.Ytklppacfomfkaaa
