import Derived.Test.YtifcmibjcjmmkaaRttG
namespace Go.Proofs.Ytifcmibjcjmmkaa
open Go.RowKit
set_option linter.unusedVariables false

/-- What holds of the round trips that were drawn: nothing was measured, or least and greatest are l and g. -/
def RI (a b c d l g : Int) : Prop :=
  (a = 0 ∧ b = 0 ∧ c = 0 ∧ d = 0 ∧ l = 0 ∧ g = 0) ∨
  (1 ≤ l ∧ l ≤ g ∧ g ≤ 90000 ∧ b = l ∧ 1 ≤ a ∧ a ≤ 90000 ∧ l - 7 ≤ c ∧ 1 ≤ c ∧ c ≤ g ∧ 0 ≤ d ∧ d ≤ 90000)
def lNext (l s : Int) : Int := if l = 0 ∨ s < l then s else l
theorem step_draw (a b c d l g s y : Int) (h : RI a b c d l g) (hs : 1 ≤ s ∧ s ≤ 90000) (hy : 0 ≤ y ∧ y ≤ 5000) : ∃ x2 x3 : Int,
    (∀ w : World, Calls Try.prog 9 #[rv a b c d, .int .i64 s, .int .i64 y, .int .i64 3000] w fun e w' => e = .returned (rv s (lNext l s) x2 x3) ∧ Below w.heap.size w w') ∧
    (∀ w : World, Calls Try.prog 10 #[rv a b c d, .int .i64 s, .int .i64 y, .int .i64 3000] w fun e w' => e = .returned (rv s (lNext l s) x2 x3) ∧ Below w.heap.size w w') ∧
    RI s (lNext l s) x2 x3 (lNext l s) (max g s) ∧ 1 ≤ lNext l s := by
  have h1 : 1 ≤ s ∧ s ≤ 1000000000000 := by omega
  have h3 : tOK y := ⟨by omega, by omega⟩
  have h4 : tOK 3000 := ⟨by omega, by omega⟩
  rcases h with ⟨ha, hb, hc, hd, hl, hg⟩ | ⟨h11, h12, h13, h14, h15, h16, h17, h18, h19, h20, h21⟩
  · have hz : zR a b c d := ⟨ha, hb, hc, hd⟩
    have h0 : okR a b c d := by
      obtain ⟨rfl, rfl, rfl, rfl⟩ := hz
      decide
    have e : lNext l s = s := by unfold lNext; rw [if_pos (Or.inl hl)]
    rw [e]
    refine ⟨s, s / 2, stepS_first a b c d s y 3000 h0 hz h1 h3 h4, stepI_first a b c d s y 3000 h0 hz h1 h3 h4, Or.inr ?_, by omega⟩
    refine ⟨by omega, by omega, by omega, by omega, by omega, by omega, by omega, by omega, by omega, by omega, by omega⟩
  · have hz : ¬ zR a b c d := fun q => by have := q.1; omega
    have h0 : okR a b c d := ⟨⟨by omega, by omega⟩, ⟨by omega, by omega⟩, ⟨by omega, by omega⟩, ⟨by omega, by omega⟩, Or.inr ⟨by omega, by omega, by omega⟩⟩
    have e : lNext l s = min b s := by
      unfold lNext
      by_cases q : l = 0 ∨ s < l
      · rw [if_pos q]; omega
      · rw [if_neg q]; omega
    rw [e]
    have hadj : min b s ≤ adjV b s y 3000 ∧ adjV b s y 3000 ≤ s := by
      unfold adjV
      split
      · omega
      · omega
    refine ⟨stS c b s y 3000, stV c d b s y 3000, stepS_next a b c d s y 3000 h0 hz h1 h3 h4, stepI_next a b c d s y 3000 h0 hz h1 h3 h4, Or.inr ?_, by omega⟩
    unfold stS stV
    generalize adjV b s y 3000 = j at hadj
    refine ⟨by omega, by omega, by omega, by omega, by omega, by omega, by omega, by omega, by omega, by omega, by omega⟩
theorem pow2_pos (k : Nat) : (1 : Int) ≤ 2 ^ k := by
  induction k with
  | zero => simp
  | succ k ih => rw [Int.pow_succ]; omega
theorem pdL_two (x : Int) (k : Nat) (hx : 0 ≤ x) : pdL x k = min (x * 2 ^ k) 1000000000000 := by
  induction k generalizing x with
  | zero => unfold pdL; simp
  | succ k ih =>
    unfold pdL
    by_cases h : x < 1000000000000
    · rw [if_pos h, ih _ (by omega), Int.pow_succ, Int.mul_comm 2 x, Int.mul_assoc, Int.mul_comm 2]
    · rw [if_neg h]
      have : x * 1 ≤ x * 2 ^ (k + 1) := Int.mul_le_mul_of_nonneg_left (pow2_pos (k + 1)) hx
      omega
/-- The delays behind the last round trip. -/
theorem last_pd (a b c d l g : Int) (h : RI a b c d l g) (hl : 1 ≤ l) : ∃ q : Int, c < q ∧ q ≤ 1000000 ∧
    pdV a b c d 100 0 = q ∧ pdV a b c d 100 1 = 2 * q ∧ pdV a b c d 100 50 = 1000000000000 ∧
    1000 ≤ ldV a b c d ∧ a * 9 / 8 ≤ ldV a b c d ∧ 1 ≤ a ∧ a ≤ 90000 ∧ 1 ≤ c ∧ c ≤ 90000 := by
  rcases h with ⟨ha, hb, hc, hd, hl', hg⟩ | ⟨h11, h12, h13, h14, h15, h16, h17, h18, h19, h20, h21⟩
  · omega
  have h0 : okR a b c d := ⟨⟨by omega, by omega⟩, ⟨by omega, by omega⟩, ⟨by omega, by omega⟩, ⟨by omega, by omega⟩, Or.inr ⟨by omega, by omega, by omega⟩⟩
  have hn : ∀ n : Int, 0 ≤ n → ¬ (¬ okR a b c d ∨ ¬ tOK 100 ∨ n < 0) := by
    intro n hn
    rintro (q | q | q)
    · exact q h0
    · exact q ⟨by omega, by omega⟩
    · omega
  have hp : pbase c d 100 = c + max (4 * d) 1000 + 100 := by unfold pbase; rw [if_neg (by omega), if_neg (by omega)]
  have hv : ∀ n : Int, 0 ≤ n → pdV a b c d 100 n = min ((c + max (4 * d) 1000 + 100) * 2 ^ n.toNat) 1000000000000 := by
    intro n h
    unfold pdV
    rw [if_neg (hn n h), hp, pdL_two _ _ (by omega)]
  have hL : ldV a b c d = max ((9 * max a c) / 8) 1000 := by unfold ldV; rw [if_neg (by simpa using h0), if_neg (by omega)]
  refine ⟨c + max (4 * d) 1000 + 100, by omega, by omega, ?_, ?_, ?_, ?_, ?_, by omega, by omega, by omega, by omega⟩
  · rw [hv 0 (by omega), show (0 : Int).toNat = 0 from rfl]; omega
  · rw [hv 1 (by omega), show (1 : Int).toNat = 1 from rfl]; omega
  · rw [hv 50 (by omega), show (50 : Int).toNat = 50 from rfl]; omega
  · rw [hL]; omega
  · rw [hL]; omega
end Go.Proofs.Ytifcmibjcjmmkaa
