import Derived.Test.YtklppacfomfkaaaGpM
import Derived.Test.YtklppacfomfkaaaPfI
import Derived.Test.YtklppacfomfkaaaPlace
namespace Go.Proofs.Ytklppacfomfkaaa
open Go.RowKit
set_option linter.unusedVariables false

theorem gpI_long (ao : Option Addr) (n cap : Nat) (a k : Int) (w : World) (h : 65536 < n) (hm : n ≤ 9223372036854775807) :
    Calls Try.prog 7 #[.slice ao n cap, .int .i64 a, .int .i64 k] w fun e w' => e = .returned (.tuple #[.int .i64 0, .int .i64 0, .int .i64 4]) ∧ w' = w := by
  go_enter Try.func7, Try.ntmps7
  go_wp2_with (go_at_call 16; refine (place_long _ _ _ _ _ h hm).mono ?_; rintro e w' ⟨rfl, rfl⟩)
  go_ret3
  exact ⟨rfl, rfl⟩
theorem gpI_place (ao : Option Addr) (n cap : Nat) (a k : Int) (w : World) (h : n ≤ 65536) (h1 : a < 0 ∨ (n : Int) < a) :
    Calls Try.prog 7 #[.slice ao n cap, .int .i64 a, .int .i64 k] w fun e w' => e = .returned (.tuple #[.int .i64 0, .int .i64 0, .int .i64 1]) ∧ w' = w := by
  have C := place_bad ao n cap a w h h1
  have HC : Hid _ := And.intro C True.intro
  clear C h1
  go_enter Try.func7, Try.ntmps7
  go_wp2_with (go_at_call 16; refine HC.out.1.mono ?_; rintro e w' ⟨rfl, hw⟩; subst w')
  go_ret3
  exact ⟨rfl, rfl⟩
theorem gpI_bits (ao : Option Addr) (n cap : Nat) (a k : Int) (w : World) (h : n ≤ 65536) (h0 : 0 ≤ a) (h1 : a ≤ (n : Int)) (hk : ¬ (1 ≤ k ∧ k ≤ 8)) :
    Calls Try.prog 7 #[.slice ao n cap, .int .i64 a, .int .i64 k] w fun e w' => e = .returned (.tuple #[.int .i64 0, .int .i64 0, .int .i64 1]) ∧ w' = w := by
  have C := place_ok ao n cap a w h h0 h1
  have D := bitsI k w
  rw [decide_eq_false hk] at D
  have HC : Hid _ := And.intro C (And.intro D True.intro)
  clear C D hk
  go_enter Try.func7, Try.ntmps7
  go_wp2_with (first
    | (go_at_call 16; refine HC.out.1.mono ?_; rintro e w' ⟨rfl, hw⟩; subst w')
    | (go_at_call 17; refine HC.out.2.1.mono ?_; rintro e w' ⟨rfl, hw⟩; subst w'))
  go_ret3
  exact ⟨rfl, rfl⟩
theorem gpI_end (ao : Option Addr) (n cap : Nat) (k : Int) (w : World) (h : n ≤ 65536) (hk : 1 ≤ k ∧ k ≤ 8) :
    Calls Try.prog 7 #[.slice ao n cap, .int .i64 (n : Int), .int .i64 k] w fun e w' => e = .returned (.tuple #[.int .i64 0, .int .i64 0, .int .i64 2]) ∧ w' = w := by
  have C := place_ok ao n cap (n : Int) w h (by omega) (by omega)
  have D := bitsI k w
  rw [decide_eq_true hk] at D
  have HC : Hid _ := And.intro C (And.intro D True.intro)
  clear C D hk
  go_enter Try.func7, Try.ntmps7
  go_wp2_with (first
    | (go_at_call 16; refine HC.out.1.mono ?_; rintro e w' ⟨rfl, hw⟩; subst w')
    | (go_at_call 17; refine HC.out.2.1.mono ?_; rintro e w' ⟨rfl, hw⟩; subst w'))
  go_ret3
  exact ⟨rfl, rfl⟩

set_option maxHeartbeats 4000000 in
theorem gpI_at (b off n cap p k : Nat) (f : Int) (ef : f = fl k) (xs : List Int) (R : Int × Int × Int) (w : World) (hn : n ≤ 65536) (hcap : n ≤ cap ∧ cap ≤ maxLen) (en : xs.length = n) (hp : p < n) (h1 : 1 ≤ k) (h8 : k ≤ 8) (hB : Bytes xs) (hR : gpR xs p f = R)
    (hc : ∀ j, j < n → w.cell? ⟨b, off + j, none⟩ = some (.int .u8 (xs.getD j 0))) :
    Calls Try.prog 7 #[.slice (some ⟨b, off, none⟩) n cap, .int .i64 (p : Int), .int .i64 (k : Int)] w fun e w' => e = .returned (.tuple #[.int .i64 R.1, .int .i64 R.2.1, .int .i64 R.2.2]) ∧ ∃ m, w' = w.drewN m := by
  obtain ⟨r1, r2, r3⟩ := R
  have f2 : 2 ≤ f := by rw [ef]; exact fl_two k (by omega)
  have f8 : f ≤ 256 := by rw [ef]; exact fl_hi k (by omega)
  have c0 := hc p hp
  have hx := hB.at p
  obtain ⟨c, ec⟩ : ∃ c, c = xs.getD p 0 := ⟨_, rfl⟩
  unfold gpR at hR
  rw [← ec] at c0 hx hR
  rw [if_neg (by omega)] at hR
  have m0 : 0 ≤ c % f := Int.emod_nonneg _ (by omega)
  have m1 : c % f < f := Int.emod_lt_of_pos _ (by omega)
  have C := place_ok (some ⟨b, off, none⟩) n cap (p : Int) w hn (by omega) (by omega)
  have D := bitsI (k : Int) w
  rw [decide_eq_true (by omega)] at D
  have A : ∀ u, Calls Try.prog 18 #[.int .i64 (k : Int)] u fun e w' => e = .returned (.int .i64 (f - 1)) ∧ w' = u := fun u => by rw [ef]; exact allI k u h1 h8
  have ea : bits .and .i64 c (f - 1) = c % f := by rw [ef]; exact andF c k hx.1 (by omega) h8
  obtain ⟨r, er⟩ : ∃ r, r = c % f := ⟨_, rfl⟩
  rw [← er] at ea m0 m1 hR
  have hpn : ((p : Int) == (n : Int)) = false := by simp; omega
  have HH : Hid _ := And.intro hc (And.intro hB (And.intro en (And.intro hR (And.intro C (And.intro D A)))))
  have cm : cap ≤ 9223372036854775807 := by have := hcap.2; unfold maxLen at this; omega
  have cn := hcap.1
  clear hc hB en hR ef ec C D A er hcap
  show Calls _ _ _ _ fun e w' => e = .returned (.tuple #[.int .i64 r1, .int .i64 r2, .int .i64 r3]) ∧ ∃ m, w' = w.drewN m
  go_enter Try.func7, Try.ntmps7
  go_wp2_with (first
    | (go_at_call 16; refine HH.out.2.2.2.2.1.mono ?_; rintro e w' ⟨rfl, hw⟩; subst w')
    | (go_at_call 17; refine HH.out.2.2.2.2.2.1.mono ?_; rintro e w' ⟨rfl, hw⟩; subst w'))
  go_quiet (first | (go_at_call 18; exact Calls.quiet_of_same (HH.out.2.2.2.2.2.2 _)))
  by_cases hv : r < f - 1
  · have hR := HH.out.2.2.2.1
    rw [if_pos hv] at hR
    obtain ⟨e1, e2, e3⟩ : r = r1 ∧ (p : Int) + 1 = r2 ∧ (0 : Int) = r3 := by simpa using hR
    subst e1 e2 e3
    clear hR
    go_wp2_with (go_at_call 18; refine (HH.out.2.2.2.2.2.2 _).mono ?_; rintro e w' ⟨rfl, hw⟩; subst w')
    go_ret3
    exact ⟨rfl, _, rfl⟩
  · have hR := HH.out.2.2.2.1
    rw [if_neg hv] at hR
    have hvf : r = f - 1 := by omega
    have HR : Hid (gpL xs (p + 1) 10 0 r = (r1, r2, r3)) := by rw [hvf]; exact hR
    have hd : decide (r < f - 1) = false := decide_eq_false hv
    have v1 : r ≤ 255 := by omega
    clear hR hvf hv
    by_cases hcp : cap = p + 1
    · obtain rfl : n = p + 1 := by omega
      have e0 := gpL_short HR.out (by rw [HH.out.2.2.1]; omega)
      obtain ⟨e1, e2, e3⟩ : r1 = 0 ∧ r2 = 0 ∧ r3 = 2 := by simpa using e0
      subst e1 e2 e3
      clear e0
      go_wp2_with (go_at_call 18; refine (HH.out.2.2.2.2.2.2 _).mono ?_; rintro e w' ⟨rfl, hw⟩; subst w')
      refine wp_loop_rounds 1 ?_
      rw [rounds_succ]
      go_wp2
      go_ret3
      exact ⟨rfl, _, rfl⟩
    · go_wp2_with (go_at_call 18; refine (HH.out.2.2.2.2.2.2 _).mono ?_; rintro e w' ⟨rfl, hw⟩; subst w')
      go_loopw [48, 10] (fun i v wq => ∃ (q : Nat) (y : Int), q ≤ 9 ∧ q ≤ n - (p + 1) ∧ i = .int .i64 (q : Int) ∧ v = .int .i64 y ∧ 0 ≤ y ∧ y ≤ 4611686018427387903 ∧ gpL xs (p + 1) (10 - q) q y = (r1, r2, r3) ∧ wq = w.drewN nq) (fun i _ _ => 10 - (intOf i).toNat)
      case atStart => exact ⟨0, r, by omega, by omega, rfl, rfl, m0, by omega, HR.out, rfl⟩
      case round =>
        obtain ⟨q, y, hq, hqn, rfl, rfl, y0, y1, hG, rfl⟩ := hrel
        obtain ⟨m, em⟩ : ∃ m, 10 - q = m + 1 := ⟨9 - q, by omega⟩
        have em' : 9 - q = m := by omega
        rw [em] at hG
        by_cases hsh : n ≤ p + 1 + q
        · have e0 := gpL_short hG (by rw [HH.out.2.2.1]; exact hsh)
          obtain ⟨e1, e2, e3⟩ : r1 = 0 ∧ r2 = 0 ∧ r3 = 2 := by simpa using e0
          subst e1 e2 e3
          clear hG e0 em em'
          obtain rfl : q = n - (p + 1) := by omega
          go_wp2
          go_ret3
          exact ⟨rfl, _, rfl⟩
        · have hlt : p + 1 + q < n := by omega
          have hqn2 : q < n - (p + 1) := by omega
          have cx := HH.out.1 (p + 1 + q) hlt
          rw [← Nat.add_assoc] at cx
          have hx2 := HH.out.2.1.at (p + 1 + q)
          obtain ⟨d, ed⟩ : ∃ d, d = xs.getD (p + 1 + q) 0 := ⟨_, rfl⟩
          rw [← ed] at cx hx2
          obtain ⟨d0, d1⟩ := hx2
          have hlx : p + 1 + q < xs.length := by rw [HH.out.2.2.1]; exact hlt
          have p0 : 0 ≤ d % 128 := by omega
          have p1 : d % 128 < 128 := by omega
          have u0 := un_lo q
          have hF : (4611686018427387903 - y) / un q < d % 128 → (r1, r2, r3) = ((0 : Int), (0 : Int), (3 : Int)) := fun h => gpL_form hG hlx ed.symm h
          have hE : ¬ (4611686018427387903 - y) / un q < d % 128 → d < 128 → (r1, r2, r3) = (y + d % 128 * un q, ((p + 1 : Nat) : Int) + q + 1, (0 : Int)) := fun h h2 => gpL_end hG hlx ed.symm h h2
          have hN : ¬ (4611686018427387903 - y) / un q < d % 128 → 128 ≤ d → gpL xs (p + 1) m (q + 1) (y + d % 128 * un q) = (r1, r2, r3) := fun h h2 => gpL_next hG hlx ed.symm h h2
          have eu := un_sh q
          obtain ⟨u, euu⟩ : ∃ u, u = un q := ⟨_, rfl⟩
          rw [← euu] at u0 hF hE hN eu
          have HN : Hid _ := And.intro hN (And.intro hF hE)
          clear euu hN hF hE hG hlx ed hsh em hqn
          by_cases hf : (4611686018427387903 - y) / u < d % 128
          · obtain ⟨e1, e2, e3⟩ : r1 = 0 ∧ r2 = 0 ∧ r3 = 3 := by simpa using HN.out.2.1 hf
            subst e1 e2 e3
            go_wp2
            go_ret3
            exact ⟨rfl, _, rfl⟩
          · obtain ⟨q0, q1⟩ := room_mul u0 p0 hf
            have hdf : decide ((4611686018427387903 - y) / u < d % 128) = false := decide_eq_false hf
            by_cases h128 : d < 128
            · obtain ⟨e1, e2, e3⟩ : r1 = y + d % 128 * u ∧ r2 = (p : Int) + 1 + q + 1 ∧ r3 = 0 := by simpa using HN.out.2.2 hf h128
              subst e1 e2 e3
              have hd128 : decide (128 ≤ d) = false := decide_eq_false (by omega)
              clear hf
              by_cases hq9 : q = 9
              · subst hq9
                have eu' : u = 9223372036854775808 := by rw [← eu]; decide
                have hz : d = 0 := by
                  have : (4611686018427387903 - y) / u = 0 := by rw [eu']; omega
                  rw [this] at hdf
                  have := of_decide_eq_false hdf
                  omega
                have hdv : (4611686018427387903 - y) / 9223372036854775808 = 0 := by omega
                subst hz
                clear eu q0 q1 hdf p0 p1 d0 d1
                simp only [Int.zero_emod, Int.zero_mul, Int.add_zero]
                go_wp2
                go_ret3
                exact ⟨rfl, _, rfl⟩
              · have hb9 : ((q : Int) == 9) = false := by simp; omega
                go_wp2
                go_ret3
                exact ⟨rfl, _, rfl⟩
            · have hN := HN.out.1 hf (by omega)
              have h128' : 128 ≤ d := by omega
              by_cases hq9 : q = 9
              · subst hq9
                have eu' : u = 9223372036854775808 := by rw [← eu]; decide
                have hz : d = 128 := by
                  have : (4611686018427387903 - y) / u = 0 := by rw [eu']; omega
                  rw [this] at hdf
                  have := of_decide_eq_false hdf
                  omega
                have hdv : (4611686018427387903 - y) / 9223372036854775808 = 0 := by omega
                rw [show m = 0 by omega] at hN
                subst hz
                clear eu q0 q1 hdf p0 p1 d0 d1
                obtain ⟨e1, e2, e3⟩ : 0 = r1 ∧ 0 = r2 ∧ 3 = r3 := by simpa [gpL] using hN
                subst e1 e2 e3
                clear hf hN
                go_wp2
                go_ret3
                exact ⟨rfl, _, rfl⟩
              · have hb9 : ((q : Int) == 9) = false := by simp; omega
                have E : Hid _ := And.intro hN True.intro
                clear hf hN
                go_wp2
                go_roundw
                case rel => exact ⟨q + 1, _, by omega, by omega, by go_num, rfl, by omega, by omega, by rw [show 10 - (q + 1) = m by omega]; exact E.out.1, by first | rfl | trivial⟩
                case measure => simp [intOf]; omega
end Go.Proofs.Ytklppacfomfkaaa
