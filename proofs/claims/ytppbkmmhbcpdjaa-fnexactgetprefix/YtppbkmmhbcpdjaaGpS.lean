import Derived.Test.YtppbkmmhbcpdjaaGpM
namespace Go.Proofs.Ytppbkmmhbcpdjaa
open Go.RowKit
set_option linter.unusedVariables false

theorem gpS_end (ao : Option Addr) (n cap : Nat) (a k : Int) (w : World) (h : (n : Int) ≤ a) (hn : n ≤ 65536) :
    Calls Try.prog 17 #[.slice ao n cap, .int .i64 a, .int .i64 k] w fun e w' => e = .returned (.tuple #[.int .i64 0, .int .i64 0, .int .i64 2]) ∧ w' = w := by
  go_enter Try.func17, Try.ntmps17
  go_wp2
  go_ret3
  exact ⟨rfl, rfl⟩

set_option maxHeartbeats 4000000 in
theorem gpS_at (b off n cap p k : Nat) (f : Int) (ef : f = fl k) (xs : List Int) (R : Int × Int × Int) (w : World) (hn : n ≤ 65536) (en : xs.length = n) (hp : p < n) (h1 : 1 ≤ k) (h8 : k ≤ 8) (hB : Bytes xs) (hR : gpR xs p f = R)
    (hc : ∀ j, j < n → w.cell? ⟨b, off + j, none⟩ = some (.int .u8 (xs.getD j 0))) :
    Calls Try.prog 17 #[.slice (some ⟨b, off, none⟩) n cap, .int .i64 (p : Int), .int .i64 (k : Int)] w fun e w' => e = .returned (.tuple #[.int .i64 R.1, .int .i64 R.2.1, .int .i64 R.2.2]) ∧ w' = w := by
  obtain ⟨r1, r2, r3⟩ := R
  have f2 : 2 ≤ f := by rw [ef]; exact fl_two k (by omega)
  have f8 : f ≤ 256 := by rw [ef]; exact fl_hi k (by omega)
  have c0 := hc p hp
  have hx := hB.at p
  obtain ⟨c, ec⟩ : ∃ c, c = xs.getD p 0 := ⟨_, rfl⟩
  unfold gpR at hR
  rw [← ec] at c0 hx hR
  rw [if_neg (by omega)] at hR
  have m0 : 0 ≤ c % f := Int.emod_nonneg _ (by omega)
  have m1 : c % f < f := Int.emod_lt_of_pos _ (by omega)
  have HH : Hid _ := And.intro hc (And.intro hB (And.intro en (And.intro hR ef)))
  clear hc hB en hR ef ec
  show Calls _ _ _ _ fun e w' => e = .returned (.tuple #[.int .i64 r1, .int .i64 r2, .int .i64 r3]) ∧ w' = w
  go_enter Try.func17, Try.ntmps17
  go_wp2
  go_loopw [9, 10] (fun a i wr => ∃ j : Nat, j ≤ k ∧ i = .int .i64 (j : Int) ∧ a = .int .i64 (fl j) ∧ wr = w) (fun _ i _ => k - (intOf i).toNat)
  case atStart => exact ⟨0, by omega, rfl, rfl, rfl⟩
  case round =>
    obtain ⟨j, hj, rfl, rfl, rfl⟩ := hrel
    by_cases hlt : j < k
    · have b1 := fl_lo j
      have b2 := fl_hi j (by omega)
      have es : Hid (fl (j + 1) = 2 * fl j) := fl_succ j
      obtain ⟨g, eg⟩ : ∃ g, g = fl j := ⟨_, rfl⟩
      rw [← eg] at b1 b2 es ⊢
      clear eg
      go_wp2
      go_roundw
      case rel => exact ⟨j + 1, by omega, by go_num, by rw [es.out], by first | rfl | trivial⟩
      case measure => simp [intOf]; omega
    · obtain rfl : j = k := by omega
      have ef := HH.out.2.2.2.2
      rw [← ef]
      clear ef hlt hj
      by_cases hv : c % f < f - 1
      · have hR := HH.out.2.2.2.1
        rw [if_pos hv] at hR
        obtain ⟨e1, e2, e3⟩ : c % f = r1 ∧ (p : Int) + 1 = r2 ∧ (0 : Int) = r3 := by simpa using hR
        subst e1 e2 e3
        clear hR
        go_wp2
        go_ret3
        exact ⟨rfl, rfl⟩
      · have hR := HH.out.2.2.2.1
        rw [if_neg hv] at hR
        have hvf : c % f = f - 1 := by omega
        have HR : Hid (gpL xs (p + 1) 10 0 (c % f) = (r1, r2, r3)) := by rw [hvf]; exact hR
        obtain ⟨v, ev⟩ : ∃ v, v = c % f := ⟨_, rfl⟩
        have hd : decide (c % f < f - 1) = false := decide_eq_false hv
        have v0 : 0 ≤ c % f := m0
        have v1 : c % f ≤ 255 := by omega
        clear hR hvf hv ev v
        go_wp2
        go_loopw [1, 11, 12, 13] (fun a v u i wq => ∃ (q : Nat) (y : Int), q ≤ 10 ∧ i = .int .i64 (q : Int) ∧ a = .int .i64 ((p : Int) + 1 + q) ∧ v = .int .i64 y ∧ u = .int .i64 (un (min q 8)) ∧ 0 ≤ y ∧ y ≤ 4611686018427387903 ∧ gpL xs (p + 1) (10 - q) q y = (r1, r2, r3) ∧ wq = wr) (fun _ _ _ i _ => 10 - (intOf i).toNat)
        case atStart => exact ⟨0, c % f, by omega, rfl, by go_num, rfl, rfl, m0, by omega, HR.out, rfl⟩
        case round =>
          obtain ⟨q, y, hq, rfl, rfl, rfl, rfl, y0, y1, hG, rfl⟩ := hrel
          by_cases hq10 : q < 10
          · obtain ⟨m, em⟩ : ∃ m, 10 - q = m + 1 := ⟨9 - q, by omega⟩
            have em' : 9 - q = m := by omega
            rw [em] at hG
            by_cases hsh : n ≤ p + 1 + q
            · have e0 := gpL_short hG (by rw [HH.out.2.2.1]; exact hsh)
              obtain ⟨e1, e2, e3⟩ : r1 = 0 ∧ r2 = 0 ∧ r3 = 2 := by simpa using e0
              subst e1 e2 e3
              clear hG e0 em em'
              go_wp2
              go_ret3
              exact ⟨rfl, rfl⟩
            · have hlt : p + 1 + q < n := by omega
              have cx := HH.out.1 (p + 1 + q) hlt
              have hx2 := HH.out.2.1.at (p + 1 + q)
              obtain ⟨d, ed⟩ : ∃ d, d = xs.getD (p + 1 + q) 0 := ⟨_, rfl⟩
              rw [← ed] at cx hx2
              obtain ⟨d0, d1⟩ := hx2
              have eo : ((off : Int) + ((p : Int) + 1 + q)).toNat = off + (p + 1 + q) := by omega
              have hlx : p + 1 + q < xs.length := by rw [HH.out.2.2.1]; exact hlt
              have p0 : 0 ≤ d % 128 := by omega
              have p1 : d % 128 < 128 := by omega
              have en1 : ((p : Int) + 1 + q).toNat = p + 1 + q := by omega
              have G : Hid _ := And.intro hG (And.intro hlx ed.symm)
              clear hG hlx ed hsh em
              by_cases hq9 : q = 9
              · subst hq9
                by_cases hf : (4611686018427387903 - y) / un 9 < d % 128
                · have e0 := gpL_form G.out.1 G.out.2.1 G.out.2.2 hf
                  obtain ⟨e1, e2, e3⟩ : r1 = 0 ∧ r2 = 0 ∧ r3 = 3 := by simpa using e0
                  subst e1 e2 e3
                  have hpos : 0 < d % 128 := by rw [un_nine] at hf; omega
                  clear e0 hf em'
                  go_wp2
                  go_ret3
                  exact ⟨rfl, rfl⟩
                · have hz := nine_zero y0 y1 p0 hf
                  have hd0 : decide (0 < d % 128) = false := decide_eq_false (by omega)
                  by_cases h128 : d < 128
                  · have e0 := gpL_end G.out.1 G.out.2.1 G.out.2.2 hf h128
                    rw [hz] at e0
                    obtain ⟨e1, e2, e3⟩ : r1 = y ∧ r2 = (p : Int) + 1 + 9 + 1 ∧ r3 = 0 := by simpa using e0
                    subst e1 e2 e3
                    clear e0 hf em' hz
                    go_wp2
                    go_ret3
                    exact ⟨rfl, rfl⟩
                  · have e0 := gpL_next G.out.1 G.out.2.1 G.out.2.2 hf (by omega)
                    rw [hz, show m = 0 by omega] at e0
                    have E : Hid _ := And.intro e0 True.intro
                    clear e0 hf hz
                    go_wp2
                    go_roundw
                    case rel => exact ⟨10, y, by omega, by go_num, by go_num, rfl, rfl, y0, y1, by have := E.out.1; simpa using this, by first | rfl | trivial⟩
                    case measure => simp [intOf]
              · have hq8 : q ≤ 8 := by omega
                have eun : un (min q 8) = un q := by rw [Nat.min_eq_left hq8]
                have u0 := un_lo q
                have u1 := un_hi q hq8
                have u7 : Hid (q < 8 → un q ≤ 562949953421312) := fun h => un_hi7 q h
                rw [eun]
                have ens0 : un (min (q + 1) 8) = if q < 8 then un q * 128 else un q := by
                  by_cases h7 : q < 8
                  · rw [if_pos h7, Nat.min_eq_left (by omega), un_succ]
                  · obtain rfl : q = 8 := by omega
                    rfl
                have ens : Hid (un (min (q + 1) 8) = if q < 8 then un q * 128 else un q) := ens0
                clear ens0
                have hF : (4611686018427387903 - y) / un q < d % 128 → (r1, r2, r3) = ((0 : Int), (0 : Int), (3 : Int)) := fun h => gpL_form G.out.1 G.out.2.1 G.out.2.2 h
                have hE : ¬ (4611686018427387903 - y) / un q < d % 128 → d < 128 → (r1, r2, r3) = (y + d % 128 * un q, ((p + 1 : Nat) : Int) + q + 1, (0 : Int)) := fun h h2 => gpL_end G.out.1 G.out.2.1 G.out.2.2 h h2
                have hN : ¬ (4611686018427387903 - y) / un q < d % 128 → 128 ≤ d → gpL xs (p + 1) m (q + 1) (y + d % 128 * un q) = (r1, r2, r3) := fun h h2 => gpL_next G.out.1 G.out.2.1 G.out.2.2 h h2
                obtain ⟨u, eu⟩ : ∃ u, u = un q := ⟨_, rfl⟩
                rw [← eu] at u0 u1 u7 ens hF hE hN ⊢
                have HN : Hid _ := And.intro hN (And.intro hF hE)
                clear eu eun hN hF hE
                have hne9 : ((q : Int) == 9) = false := by simp; omega
                have hlt9 : decide ((q : Int) < 9) = true := by simp; omega
                have dn : 0 ≤ (4611686018427387903 - y) / u := Int.ediv_nonneg (by omega) (by omega)
                by_cases hf : (4611686018427387903 - y) / u < d % 128
                · obtain ⟨e1, e2, e3⟩ : r1 = 0 ∧ r2 = 0 ∧ r3 = 3 := by simpa using HN.out.2.1 hf
                  subst e1 e2 e3
                  go_wp2
                  go_ret3
                  exact ⟨rfl, rfl⟩
                · obtain ⟨q0, q1⟩ := room_mul u0 p0 hf
                  have hdf : decide ((4611686018427387903 - y) / u < d % 128) = false := decide_eq_false hf
                  by_cases h128 : d < 128
                  · obtain ⟨e1, e2, e3⟩ : r1 = y + d % 128 * u ∧ r2 = (p : Int) + 1 + q + 1 ∧ r3 = 0 := by simpa using HN.out.2.2 hf h128
                    subst e1 e2 e3
                    clear hf
                    by_cases h7 : q < 8
                    · have hd8 : decide ((q : Int) < 8) = true := by simp; omega
                      clear ens
                      have u2 : u * 128 ≤ 9223372036854775807 := by have := u7.out h7; omega
                      go_wp2
                      go_ret3
                      exact ⟨rfl, rfl⟩
                    · have hd8 : decide ((q : Int) < 8) = false := by simp; omega
                      clear ens
                      go_wp2
                      go_ret3
                      exact ⟨rfl, rfl⟩
                  · have hN := HN.out.1 hf (by omega)
                    have E : Hid _ := And.intro hN True.intro
                    clear hf hN
                    by_cases h7 : q < 8
                    · have hd8 : decide ((q : Int) < 8) = true := by simp; omega
                      have ens' := ens.out
                      rw [if_pos h7] at ens'
                      have EN : Hid (un (min (q + 1) 8) = u * 128) := ens'
                      clear ens ens'
                      have u2 : u * 128 ≤ 9223372036854775807 := by have := u7.out h7; omega
                      go_wp2
                      go_roundw
                      case rel => exact ⟨q + 1, _, by omega, by go_num, by go_num, rfl, by rw [EN.out], by omega, by omega, by rw [show 10 - (q + 1) = m by omega]; exact E.out.1, by first | rfl | trivial⟩
                      case measure => simp [intOf]; omega
                    · have hd8 : decide ((q : Int) < 8) = false := by simp; omega
                      have ens' := ens.out
                      rw [if_neg h7] at ens'
                      have EN : Hid (un (min (q + 1) 8) = u) := ens'
                      clear ens ens'
                      go_wp2
                      go_roundw
                      case rel => exact ⟨q + 1, _, by omega, by go_num, by go_num, rfl, by rw [EN.out], by omega, by omega, by rw [show 10 - (q + 1) = m by omega]; exact E.out.1, by first | rfl | trivial⟩
                      case measure => simp [intOf]; omega
          · obtain rfl : q = 10 := by omega
            obtain ⟨e1, e2, e3⟩ : 0 = r1 ∧ 0 = r2 ∧ 3 = r3 := by simpa [gpL] using hG
            subst e1 e2 e3
            clear hG
            go_wp2
            go_ret3
            exact ⟨rfl, rfl⟩
end Go.Proofs.Ytppbkmmhbcpdjaa
