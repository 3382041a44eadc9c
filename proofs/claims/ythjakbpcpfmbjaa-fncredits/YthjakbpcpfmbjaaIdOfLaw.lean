import Derived.Test.YthjakbpcpfmbjaaMem
import Derived.Lib.EndianBits
namespace Go.Proofs.Ythjakbpcpfmbjaa
open Go.RowKit
set_option linter.unusedVariables false

theorem ofInt63 (n : Nat) (hn : n < 9223372036854775808) : (BitVec.ofInt IntKind.i64.bits (n : Int)).toNat = n := by
  show (BitVec.ofInt 64 (n : Int)).toNat = n
  rw [BitVec.ofInt_natCast, BitVec.toNat_ofNat]
  exact Nat.mod_eq_of_lt (by omega)
theorem wrap63 (n : Nat) (hn : n < 9223372036854775808) : IntKind.i64.wrap (n : Int) = n := by
  simp [IntKind.wrap, IntKind.bits, IntKind.signed]
  omega
theorem or_i64 (a b c : Nat) (ha : a < 9223372036854775808) (hb : b < 9223372036854775808) (hc : c < 9223372036854775808) (h : a ||| b = c) : bits .or .i64 (a : Int) (b : Int) = (c : Int) := by
  show IntKind.i64.wrap (((BitVec.ofInt IntKind.i64.bits (a : Int)) ||| (BitVec.ofInt IntKind.i64.bits (b : Int))).toNat : Int) = _
  rw [BitVec.toNat_or, ofInt63 a ha, ofInt63 b hb, h, wrap63 c hc]
theorem and_i64 (a b c : Nat) (ha : a < 9223372036854775808) (hb : b < 9223372036854775808) (hc : c < 9223372036854775808) (h : a &&& b = c) : bits .and .i64 (a : Int) (b : Int) = (c : Int) := by
  show IntKind.i64.wrap (((BitVec.ofInt IntKind.i64.bits (a : Int)) &&& (BitVec.ofInt IntKind.i64.bits (b : Int))).toNat : Int) = _
  rw [BitVec.toNat_and, ofInt63 a ha, ofInt63 b hb, h, wrap63 c hc]
theorem or4 (n b : Nat) (hb : b < 4) : 4 * n ||| b = 4 * n + b := (Nat.two_pow_add_eq_or_of_lt (i := 2) hb n).symm
theorem or41 (n : Nat) : (4 * n + 1) ||| 2 = 4 * n + 3 := by
  rw [← or4 n 1 (by decide), Nat.or_assoc, ← or4 n 3 (by decide)]; rfl
theorem orI1 (n : Int) (h0 : 0 ≤ n) (h1 : n < 1152921504606846976) : bits .or .i64 (n * 4) 1 = n * 4 + 1 := by
  obtain ⟨m, rfl⟩ := Int.eq_ofNat_of_zero_le h0
  have h := or_i64 (4 * m) 1 (4 * m + 1) (by omega) (by omega) (by omega) (or4 m 1 (by decide))
  have e : ((m : Int) * 4) = ((4 * m : Nat) : Int) := by omega
  rw [e]; rw [show ((1 : Int)) = ((1 : Nat) : Int) from rfl, h]; omega
theorem orI2 (n : Int) (h0 : 0 ≤ n) (h1 : n < 1152921504606846976) : bits .or .i64 (n * 4) 2 = n * 4 + 2 := by
  obtain ⟨m, rfl⟩ := Int.eq_ofNat_of_zero_le h0
  have h := or_i64 (4 * m) 2 (4 * m + 2) (by omega) (by omega) (by omega) (or4 m 2 (by decide))
  have e : ((m : Int) * 4) = ((4 * m : Nat) : Int) := by omega
  rw [e]; rw [show ((2 : Int)) = ((2 : Nat) : Int) from rfl, h]; omega
theorem orI3 (n : Int) (h0 : 0 ≤ n) (h1 : n < 1152921504606846976) : bits .or .i64 (n * 4 + 1) 2 = n * 4 + 3 := by
  obtain ⟨m, rfl⟩ := Int.eq_ofNat_of_zero_le h0
  have h := or_i64 (4 * m + 1) 2 (4 * m + 3) (by omega) (by omega) (by omega) (or41 m)
  have e : ((m : Int) * 4 + 1) = ((4 * m + 1 : Nat) : Int) := by omega
  rw [e]; rw [show ((2 : Int)) = ((2 : Nat) : Int) from rfl, h]; omega
theorem andI1 (n : Int) (h0 : 0 ≤ n) (h1 : n < 9223372036854775808) : bits .and .i64 n 1 = n % 2 := by
  obtain ⟨m, rfl⟩ := Int.eq_ofNat_of_zero_le h0
  have h := and_i64 m 1 (m % 2) (by omega) (by omega) (by omega) (Nat.and_one_is_mod m)
  rw [show ((1 : Int)) = ((1 : Nat) : Int) from rfl, h]; omega
theorem andI2 (n : Int) (h0 : 0 ≤ n) (h1 : n < 9223372036854775808) : bits .and .i64 n 2 = n / 2 % 2 * 2 := by
  obtain ⟨m, rfl⟩ := Int.eq_ofNat_of_zero_le h0
  have e : m &&& 2 = m / 2 % 2 * 2 := by
    apply Nat.eq_of_testBit_eq
    intro i
    have h2 : ∀ i, Nat.testBit 2 i = decide (i = 1) := by
      intro i
      have := Nat.testBit_two_pow (n := 1) (m := i)
      rw [show (2 : Nat) ^ 1 = 2 from rfl] at this
      rw [this]
      by_cases h : i = 1 <;> simp [h, eq_comm]
    rw [Nat.testBit_and, h2]
    rcases (show m / 2 % 2 = 0 ∨ m / 2 % 2 = 1 by omega) with hq | hq
    · rw [hq]
      by_cases h : i = 1
      · subst h; simp [Nat.testBit_eq_decide_div_mod_eq, hq]
      · simp [h]
    · rw [hq]
      by_cases h : i = 1
      · subst h; simp [Nat.testBit_eq_decide_div_mod_eq, hq]
      · simp [h, h2]
  have h := and_i64 m 2 (m / 2 % 2 * 2) (by omega) (by omega) (by omega) e
  rw [show ((2 : Int)) = ((2 : Nat) : Int) from rfl, h]; omega

def idV (s o : Bool) (n : Int) : Int := if n < 0 ∨ 1152921504606846976 ≤ n then -1 else n * 4 + (if s then 1 else 0) + (if o then 2 else 0)

set_option maxHeartbeats 1000000 in
theorem specIdOf (s o : Bool) (n : Int) (w : World) :
    Calls Try.prog 45 #[.bool s, .bool o, .int .i64 n] w fun e w' => e = .returned (.int .i64 (idV s o n)) ∧ w' = w := by
  by_cases a1 : n < 0
  · have hv : idV s o n = -1 := by unfold idV; rw [if_pos (by omega)]
    rw [hv]
    go_enter Try.func45, Try.ntmps45
    go_wp2
    go_ret
    exact ⟨rfl, rfl⟩
  by_cases a2 : 1152921504606846976 ≤ n
  · have hv : idV s o n = -1 := by unfold idV; rw [if_pos (by omega)]
    rw [hv]
    go_enter Try.func45, Try.ntmps45
    go_wp2
    go_ret
    exact ⟨rfl, rfl⟩
  have hv : idV s o n = n * 4 + (if s then 1 else 0) + (if o then 2 else 0) := by unfold idV; rw [if_neg (by omega)]
  have hc : 4 * n = n * 4 := by omega
  rw [hv]
  cases s <;> cases o <;> simp only [if_true, if_false, Bool.false_eq_true, Int.add_zero] <;>
  · go_enter Try.func45, Try.ntmps45
    go_wp2
    go_ret
    refine ⟨?_, rfl⟩
    first | rfl | (rw [show n * 4 + 1 + 2 = n * 4 + 3 by omega]; rfl)

set_option maxHeartbeats 1000000 in
theorem implIdOf (s o : Bool) (n : Int) (w : World) :
    Calls Try.prog 9 #[.bool s, .bool o, .int .i64 n] w fun e w' => e = .returned (.int .i64 (idV s o n)) ∧ w' = w := by
  by_cases a1 : n < 0
  · have hv : idV s o n = -1 := by unfold idV; rw [if_pos (by omega)]
    rw [hv]
    go_enter Try.func9, Try.ntmps9
    go_wp2
    go_ret
    exact ⟨rfl, rfl⟩
  by_cases a2 : 1152921504606846976 ≤ n
  · have hv : idV s o n = -1 := by unfold idV; rw [if_pos (by omega)]
    rw [hv]
    go_enter Try.func9, Try.ntmps9
    go_wp2
    go_ret
    exact ⟨rfl, rfl⟩
  have hv : idV s o n = n * 4 + (if s then 1 else 0) + (if o then 2 else 0) := by unfold idV; rw [if_neg (by omega)]
  have o1 := orI1 n (by omega) (by omega)
  have o2 := orI2 n (by omega) (by omega)
  have o3 := orI3 n (by omega) (by omega)
  rw [hv]
  cases s <;> cases o <;> simp only [if_true, if_false, Bool.false_eq_true, Int.add_zero] <;>
  · go_enter Try.func9, Try.ntmps9
    go_wp2
    go_ret
    refine ⟨?_, rfl⟩
    first | rfl | (rw [show n * 4 + 1 + 2 = n * 4 + 3 by omega]; rfl)

theorem results_tmp4 {fn : Func} {t u v x : Tmp} (h : fn.results = #[.tmp t, .tmp u, .tmp v, .tmp x]) (tmps : Array Value) (P : Program) (w : World) :
    (results fn tmps).run P w = .ok (.tuple #[tmps.getD t undef, tmps.getD u undef, tmps.getD v undef, tmps.getD x undef]) w := by
  simp [results, h]
def ptS (n : Int) : Bool := if n < 0 ∨ 4611686018427387904 ≤ n then false else n % 2 == 1
def ptO (n : Int) : Bool := if n < 0 ∨ 4611686018427387904 ≤ n then false else n / 2 % 2 == 1
def ptP (n : Int) : Int := if n < 0 ∨ 4611686018427387904 ≤ n then 0 else n / 4
def ptC (n : Int) : Int := if n < 0 ∨ 4611686018427387904 ≤ n then 1 else 0

set_option maxHeartbeats 1000000 in
theorem specIdParts (n : Int) (w : World) :
    Calls Try.prog 48 #[.int .i64 n] w fun e w' => e = .returned (.tuple #[.bool (ptS n), .bool (ptO n), .int .i64 (ptP n), .int .i64 (ptC n)]) ∧ w' = w := by
  by_cases a1 : n < 0
  · have c : n < 0 ∨ 4611686018427387904 ≤ n := by omega
    rw [show ptS n = false by unfold ptS; rw [if_pos c], show ptO n = false by unfold ptO; rw [if_pos c], show ptP n = 0 by unfold ptP; rw [if_pos c], show ptC n = 1 by unfold ptC; rw [if_pos c]]
    go_enter Try.func48, Try.ntmps48
    go_wp2
    (try simp only [Exit.inBlock, Exit.then])
    refine bodyPost_ret (results_tmp4 rfl _ _ _) rfl ?_
    exact ⟨rfl, rfl⟩
  by_cases a2 : 4611686018427387904 ≤ n
  · have c : n < 0 ∨ 4611686018427387904 ≤ n := by omega
    rw [show ptS n = false by unfold ptS; rw [if_pos c], show ptO n = false by unfold ptO; rw [if_pos c], show ptP n = 0 by unfold ptP; rw [if_pos c], show ptC n = 1 by unfold ptC; rw [if_pos c]]
    go_enter Try.func48, Try.ntmps48
    go_wp2
    (try simp only [Exit.inBlock, Exit.then])
    refine bodyPost_ret (results_tmp4 rfl _ _ _) rfl ?_
    exact ⟨rfl, rfl⟩
  have c : ¬ (n < 0 ∨ 4611686018427387904 ≤ n) := by omega
  have q1 : n.tmod 2 = n % 2 := Int.tmod_eq_emod_of_nonneg (by omega)
  have q2 : n.tdiv 2 = n / 2 := Int.tdiv_eq_ediv_of_nonneg (by omega)
  have q3 : (n / 2).tmod 2 = n / 2 % 2 := Int.tmod_eq_emod_of_nonneg (by omega)
  have q4 : n.tdiv 4 = n / 4 := Int.tdiv_eq_ediv_of_nonneg (by omega)
  rw [show ptS n = (n % 2 == 1) by unfold ptS; rw [if_neg c], show ptO n = (n / 2 % 2 == 1) by unfold ptO; rw [if_neg c], show ptP n = n / 4 by unfold ptP; rw [if_neg c], show ptC n = 0 by unfold ptC; rw [if_neg c]]
  go_enter Try.func48, Try.ntmps48
  go_wp2
  (try simp only [Exit.inBlock, Exit.then])
  refine bodyPost_ret (results_tmp4 rfl _ _ _) rfl ?_
  exact ⟨rfl, rfl⟩

set_option maxHeartbeats 1000000 in
theorem implIdParts (n : Int) (w : World) :
    Calls Try.prog 8 #[.int .i64 n] w fun e w' => e = .returned (.tuple #[.bool (ptS n), .bool (ptO n), .int .i64 (ptP n), .int .i64 (ptC n)]) ∧ w' = w := by
  by_cases a1 : n < 0
  · have c : n < 0 ∨ 4611686018427387904 ≤ n := by omega
    rw [show ptS n = false by unfold ptS; rw [if_pos c], show ptO n = false by unfold ptO; rw [if_pos c], show ptP n = 0 by unfold ptP; rw [if_pos c], show ptC n = 1 by unfold ptC; rw [if_pos c]]
    go_enter Try.func8, Try.ntmps8
    go_wp2
    (try simp only [Exit.inBlock, Exit.then])
    refine bodyPost_ret (results_tmp4 rfl _ _ _) rfl ?_
    exact ⟨rfl, rfl⟩
  by_cases a2 : 4611686018427387904 ≤ n
  · have c : n < 0 ∨ 4611686018427387904 ≤ n := by omega
    rw [show ptS n = false by unfold ptS; rw [if_pos c], show ptO n = false by unfold ptO; rw [if_pos c], show ptP n = 0 by unfold ptP; rw [if_pos c], show ptC n = 1 by unfold ptC; rw [if_pos c]]
    go_enter Try.func8, Try.ntmps8
    go_wp2
    (try simp only [Exit.inBlock, Exit.then])
    refine bodyPost_ret (results_tmp4 rfl _ _ _) rfl ?_
    exact ⟨rfl, rfl⟩
  have c : ¬ (n < 0 ∨ 4611686018427387904 ≤ n) := by omega
  have q1 := andI1 n (by omega) (by omega)
  have q2 := andI2 n (by omega) (by omega)
  have q4 : n.tdiv 4 = n / 4 := Int.tdiv_eq_ediv_of_nonneg (by omega)
  have b1 : (n % 2 == 1) = ((n % 2) != 0) := by
    rcases (show n % 2 = 0 ∨ n % 2 = 1 by omega) with h | h <;> rw [h] <;> rfl
  have b2 : (n / 2 % 2 == 1) = ((n / 2 % 2 * 2) != 0) := by
    rcases (show n / 2 % 2 = 0 ∨ n / 2 % 2 = 1 by omega) with h | h <;> rw [h] <;> rfl
  rw [show ptS n = (n % 2 == 1) by unfold ptS; rw [if_neg c], show ptO n = (n / 2 % 2 == 1) by unfold ptO; rw [if_neg c], show ptP n = n / 4 by unfold ptP; rw [if_neg c], show ptC n = 0 by unfold ptC; rw [if_neg c], b1, b2]
  go_enter Try.func8, Try.ntmps8
  go_wp2
  (try simp only [Exit.inBlock, Exit.then])
  refine bodyPost_ret (results_tmp4 rfl _ _ _) rfl ?_
  exact ⟨rfl, rfl⟩

end Go.Proofs.Ythjakbpcpfmbjaa
