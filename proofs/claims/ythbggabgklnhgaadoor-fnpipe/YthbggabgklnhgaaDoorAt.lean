import Derived.Test.YthbggabgklnhgaaDoorVals
namespace Go.Proofs.YthbggabgklnhgaaDoor
open Go.RowKit
set_option linter.unusedVariables false

/-- What the laws draw of their second argument at the place i, from 0 to n - 1. -/
def atV (ys : List Int) (i : Nat) (n : Int) : Int :=
  if ys.length = 0 then (i : Int) * 7 % n else (ys.getD (i % ys.length) 0 * 31 + ys.getD ((i + 1) % ys.length) 0 + ((i / ys.length : Nat) : Int)) % n
theorem atV_bd (ys : List Int) (i : Nat) (n : Int) (hn : 2 ≤ n) : 0 ≤ atV ys i n ∧ atV ys i n < n := by
  unfold atV
  split
  · exact ⟨Int.emod_nonneg _ (by omega), Int.emod_lt_of_pos _ (by omega)⟩
  · exact ⟨Int.emod_nonneg _ (by omega), Int.emod_lt_of_pos _ (by omega)⟩

theorem at_none (ao : Option Addr) (cap i : Nat) (n : Int) (w : World) (hi : i ≤ 2147483648) (hn : 2 ≤ n) (hn1 : n ≤ 2147483648) :
    Calls Tryd.prog 5 #[.slice ao 0 cap, .int .i64 (i : Int), .int .i64 n] w fun e w' => e = .returned (.int .i64 ((i : Int) * 7 % n)) ∧ w' = w := by
  go_enter Tryd.func5, Tryd.ntmps5
  go_wp2
  go_ret
  exact ⟨rfl, rfl⟩

set_option maxHeartbeats 1000000 in
theorem at_some (b off L cap i p q d : Nat) (n x y : Int) (w : World) (hL : 0 < L) (hL1 : L ≤ 9223372036854775807) (hi : i ≤ 2147483648) (hn : 2 ≤ n) (hn1 : n ≤ 2147483648)
    (hp : p < L) (hq : q < L) (hd : d ≤ 2147483648) (ep : (i : Int) % (L : Int) = (p : Int)) (eq : ((i : Int) + 1) % (L : Int) = (q : Int)) (ed : (i : Int) / (L : Int) = (d : Int))
    (x0 : 0 ≤ x) (x1 : x < 256) (y0 : 0 ≤ y) (y1 : y < 256) (cx : w.cell? ⟨b, off + p, none⟩ = some (.int .u8 x)) (cy : w.cell? ⟨b, off + q, none⟩ = some (.int .u8 y)) :
    Calls Tryd.prog 5 #[.slice (some ⟨b, off, none⟩) L cap, .int .i64 (i : Int), .int .i64 n] w fun e w' => e = .returned (.int .i64 ((x * 31 + y + (d : Int)) % n)) ∧ ∃ m, w' = w.drewN m := by
  have hne : ((L : Int) == 0) = false := by rw [beq_eq_false_iff_ne]; omega
  go_enter Tryd.func5, Tryd.ntmps5
  go_wp2
  go_quiet (fail)
  go_wp2
  go_ret
  exact ⟨rfl, _, rfl⟩

theorem atC (v : Value) (ys : List Int) (i : Nat) (n : Int) (w : World) (hrow : Row w .u8 v ys) (hB : Bytes ys) (hl : ys.length ≤ 9223372036854775807) (hi : i ≤ 2147483648) (hn : 2 ≤ n) (hn1 : n ≤ 2147483648) :
    Calls Tryd.prog 5 #[v, .int .i64 (i : Int), .int .i64 n] w fun e w' => e = .returned (.int .i64 (atV ys i n)) ∧ ∃ m, w' = w.drewN m := by
  by_cases h0 : ys.length = 0
  · obtain ⟨ao, cap, rfl⟩ := hrow.form
    rw [h0]
    rw [show atV ys i n = (i : Int) * 7 % n by unfold atV; rw [if_pos h0]]
    refine (at_none ao cap i n w hi hn hn1).mono ?_
    rintro e w' ⟨rfl, rfl⟩
    exact ⟨rfl, 0, rfl⟩
  · obtain ⟨b, off, cap, rfl, hb, hc⟩ := hrow.at (by omega)
    rw [show atV ys i n = (ys.getD (i % ys.length) 0 * 31 + ys.getD ((i + 1) % ys.length) 0 + ((i / ys.length : Nat) : Int)) % n by unfold atV; rw [if_neg h0]]
    have hp := Nat.mod_lt i (Nat.pos_of_ne_zero h0)
    have hq := Nat.mod_lt (i + 1) (Nat.pos_of_ne_zero h0)
    have hd := Nat.div_le_self i ys.length
    have bx := hB.at (i % ys.length)
    have by' := hB.at ((i + 1) % ys.length)
    exact at_some b off ys.length cap i (i % ys.length) ((i + 1) % ys.length) (i / ys.length) n _ _ w (by omega) hl hi hn hn1 hp hq (by omega) (Int.natCast_emod i ys.length).symm (Int.natCast_emod (i + 1) ys.length).symm (Int.natCast_ediv i ys.length).symm bx.1 bx.2 by'.1 by'.2 (hc _ hp) (hc _ hq)
end Go.Proofs.YthbggabgklnhgaaDoor
