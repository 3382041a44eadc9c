import Derived.Test.YtnafmmlikmppjabDrawNum
import Derived.Test.YtnafmmlikmppjabAt
import Derived.Test.YtnafmmlikmppjabNumB
import Derived.Test.YtnafmmlikmppjabCutI
import Derived.Test.YtnafmmlikmppjabExI
namespace Go.Proofs.Ytnafmmlikmppjab
open Go.RowKit
set_option linter.unusedVariables false

theorem drewN_drewN (w : World) (m n : Nat) : ∃ k, (w.drewN m).drewN n = w.drewN k := ⟨m + n, by simp [World.drewN, Nat.add_assoc]⟩
theorem exV_num_1 (num acked l : Int) (h0 : 0 ≤ num) (h1 : num ≤ 4611686018427387903) (ha : num - acked ≤ 128) (hl0 : acked ≤ l) (hl1 : l ≤ num + 128 - 2) (hm : l ≤ 4611686018427387903) (hz : -1 ≤ l) : exV (l + 1) (num % 256) 256 = num := by
  unfold exV
  by_cases a : l + 1 - (l + 1) % 256 + num % 256 ≤ l + 1 - 128
  · rw [if_pos (by omega)]; omega
  · by_cases b : l + 1 + 128 < l + 1 - (l + 1) % 256 + num % 256
    · rw [if_neg (by omega), if_pos (by omega)]; omega
    · rw [if_neg (by omega), if_neg (by omega), if_neg (by omega)]; omega
theorem expand_1 (num acked l : Int) (w : World) (h0 : 0 ≤ num) (h1 : num ≤ 4611686018427387903) (hz : -1 ≤ acked) (ha : num - acked ≤ 128) (hl0 : acked ≤ l) (hl1 : l ≤ num + 128 - 2) (hm : l ≤ 4611686018427387903) :
    Calls Try.prog 9 #[.int .i64 l, .int .i64 (num % 256), .int .i64 1] w fun e w' => e = .returned (.int .i64 num) ∧ w' = w := by
  have c := implEx_1 l (num % 256) w (by omega) hm (by omega) (by omega)
  rwa [exV_num_1 num acked l h0 h1 ha hl0 hl1 hm (by omega)] at c
theorem exV_num_2 (num acked l : Int) (h0 : 0 ≤ num) (h1 : num ≤ 4611686018427387903) (ha : num - acked ≤ 32768) (hl0 : acked ≤ l) (hl1 : l ≤ num + 32768 - 2) (hm : l ≤ 4611686018427387903) (hz : -1 ≤ l) : exV (l + 1) (num % 65536) 65536 = num := by
  unfold exV
  by_cases a : l + 1 - (l + 1) % 65536 + num % 65536 ≤ l + 1 - 32768
  · rw [if_pos (by omega)]; omega
  · by_cases b : l + 1 + 32768 < l + 1 - (l + 1) % 65536 + num % 65536
    · rw [if_neg (by omega), if_pos (by omega)]; omega
    · rw [if_neg (by omega), if_neg (by omega), if_neg (by omega)]; omega
theorem expand_2 (num acked l : Int) (w : World) (h0 : 0 ≤ num) (h1 : num ≤ 4611686018427387903) (hz : -1 ≤ acked) (ha : num - acked ≤ 32768) (hl0 : acked ≤ l) (hl1 : l ≤ num + 32768 - 2) (hm : l ≤ 4611686018427387903) :
    Calls Try.prog 9 #[.int .i64 l, .int .i64 (num % 65536), .int .i64 2] w fun e w' => e = .returned (.int .i64 num) ∧ w' = w := by
  have c := implEx_2 l (num % 65536) w (by omega) hm (by omega) (by omega)
  rwa [exV_num_2 num acked l h0 h1 ha hl0 hl1 hm (by omega)] at c
theorem exV_num_3 (num acked l : Int) (h0 : 0 ≤ num) (h1 : num ≤ 4611686018427387903) (ha : num - acked ≤ 8388608) (hl0 : acked ≤ l) (hl1 : l ≤ num + 8388608 - 2) (hm : l ≤ 4611686018427387903) (hz : -1 ≤ l) : exV (l + 1) (num % 16777216) 16777216 = num := by
  unfold exV
  by_cases a : l + 1 - (l + 1) % 16777216 + num % 16777216 ≤ l + 1 - 8388608
  · rw [if_pos (by omega)]; omega
  · by_cases b : l + 1 + 8388608 < l + 1 - (l + 1) % 16777216 + num % 16777216
    · rw [if_neg (by omega), if_pos (by omega)]; omega
    · rw [if_neg (by omega), if_neg (by omega), if_neg (by omega)]; omega
theorem expand_3 (num acked l : Int) (w : World) (h0 : 0 ≤ num) (h1 : num ≤ 4611686018427387903) (hz : -1 ≤ acked) (ha : num - acked ≤ 8388608) (hl0 : acked ≤ l) (hl1 : l ≤ num + 8388608 - 2) (hm : l ≤ 4611686018427387903) :
    Calls Try.prog 9 #[.int .i64 l, .int .i64 (num % 16777216), .int .i64 3] w fun e w' => e = .returned (.int .i64 num) ∧ w' = w := by
  have c := implEx_3 l (num % 16777216) w (by omega) hm (by omega) (by omega)
  rwa [exV_num_3 num acked l h0 h1 ha hl0 hl1 hm (by omega)] at c
theorem exV_num_4 (num acked l : Int) (h0 : 0 ≤ num) (h1 : num ≤ 4611686018427387903) (ha : num - acked ≤ 2147483648) (hl0 : acked ≤ l) (hl1 : l ≤ num + 2147483648 - 2) (hm : l ≤ 4611686018427387903) (hz : -1 ≤ l) : exV (l + 1) (num % 4294967296) 4294967296 = num := by
  unfold exV
  by_cases a : l + 1 - (l + 1) % 4294967296 + num % 4294967296 ≤ l + 1 - 2147483648
  · rw [if_pos (by omega)]; omega
  · by_cases b : l + 1 + 2147483648 < l + 1 - (l + 1) % 4294967296 + num % 4294967296
    · rw [if_neg (by omega), if_pos (by omega)]; omega
    · rw [if_neg (by omega), if_neg (by omega), if_neg (by omega)]; omega
theorem expand_4 (num acked l : Int) (w : World) (h0 : 0 ≤ num) (h1 : num ≤ 4611686018427387903) (hz : -1 ≤ acked) (ha : num - acked ≤ 2147483648) (hl0 : acked ≤ l) (hl1 : l ≤ num + 2147483648 - 2) (hm : l ≤ 4611686018427387903) :
    Calls Try.prog 9 #[.int .i64 l, .int .i64 (num % 4294967296), .int .i64 4] w fun e w' => e = .returned (.int .i64 num) ∧ w' = w := by
  have c := implEx_4 l (num % 4294967296) w (by omega) hm (by omega) (by omega)
  rwa [exV_num_4 num acked l h0 h1 ha hl0 hl1 hm (by omega)] at c

set_option maxHeartbeats 400000 in
theorem numbers_zero (v1 v2 : Value) (n1 n2 : Nat) (a b : Int) (w : World) (h1 : ∃ ao cap, v1 = .slice ao n1 cap) (h2 : ∃ ao cap, v2 = .slice ao n2 cap) (l1 : n1 ≤ 1048576) (l2 : n2 ≤ 1048576)
    (D : Calls Try.prog 4 #[v1] w fun e w' => e = .returned (.tuple #[.int .i64 a, .int .i64 b]) ∧ Below w.heap.size w w')
    (I : ∀ w : World, Calls Try.prog 5 #[.int .i64 a, .int .i64 b] w fun e w' => e = .returned (.int .i64 0) ∧ w' = w)
    (S : ∀ w : World, Calls Try.prog 6 #[.int .i64 a, .int .i64 b] w fun e w' => e = .returned (.int .i64 0) ∧ w' = w) :
    Calls Try.prog 3 #[v1, v2] w fun e w' => e = .returned (.bool true) ∧ Below w.heap.size w w' := by
  obtain ⟨ao1, cap1, rfl⟩ := h1
  obtain ⟨ao2, cap2, rfl⟩ := h2
  go_enter Try.func3, Try.ntmps3
  go_wp2_with fail
  go_at_call 4
  refine D.mono ?_
  rintro e w1 ⟨rfl, b1⟩
  go_wp2_with (first
    | (go_at_call 5; refine (I _).mono ?_; rintro e w' ⟨rfl, rfl⟩)
    | (go_at_call 6; refine (S _).mono ?_; rintro e w' ⟨rfl, rfl⟩))
  go_ret
  exact ⟨rfl, b1⟩
theorem numbers_long1 (ao1 ao2 : Option Addr) (n1 cap1 n2 cap2 : Nat) (w : World) (h : 1048576 < n1) (hm : n1 ≤ 9223372036854775807) :
    Calls Try.prog 3 #[.slice ao1 n1 cap1, .slice ao2 n2 cap2] w fun e w' => e = .returned (.bool true) ∧ Below w.heap.size w w' := by
  go_enter Try.func3, Try.ntmps3
  go_wp2
  go_ret
  exact ⟨rfl, Below.refl _ _⟩
theorem numbers_long2 (ao1 ao2 : Option Addr) (n1 cap1 n2 cap2 : Nat) (w : World) (h1 : n1 ≤ 1048576) (h : 1048576 < n2) (hm : n2 ≤ 9223372036854775807) :
    Calls Try.prog 3 #[.slice ao1 n1 cap1, .slice ao2 n2 cap2] w fun e w' => e = .returned (.bool true) ∧ Below w.heap.size w w' := by
  go_enter Try.func3, Try.ntmps3
  go_wp2
  go_ret
  exact ⟨rfl, Below.refl _ _⟩
end Go.Proofs.Ytnafmmlikmppjab
