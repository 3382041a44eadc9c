import Derived.Test.YtaodcahkkeobdaaBodyA
import Derived.Deep.CutRange
namespace Go.Proofs.Ytaodcahkkeobdaa
open Go.RowKit
set_option linter.unusedVariables false

theorem ix3_0 (x0 x1 x2 : Int) (w : World) : (Instr.index 80 (.agg #[.int .i64 x0, .int .i64 x1, .int .i64 x2]) (.int .i64 0)).run Try.prog w = .ok (.int .i64 x0) w := by kernel_rfl
theorem ix3_1 (x0 x1 x2 : Int) (w : World) : (Instr.index 80 (.agg #[.int .i64 x0, .int .i64 x1, .int .i64 x2]) (.int .i64 1)).run Try.prog w = .ok (.int .i64 x1) w := by kernel_rfl
theorem ix3_2 (x0 x1 x2 : Int) (w : World) : (Instr.index 80 (.agg #[.int .i64 x0, .int .i64 x1, .int .i64 x2]) (.int .i64 2)).run Try.prog w = .ok (.int .i64 x2) w := by kernel_rfl
theorem ix7_0 (x0 x1 x2 x3 x4 x5 x6 : Bool) (w : World) : (Instr.index 130 (.agg #[.bool x0, .bool x1, .bool x2, .bool x3, .bool x4, .bool x5, .bool x6]) (.int .i64 0)).run Try.prog w = .ok (.bool x0) w := by kernel_rfl
theorem ix7_1 (x0 x1 x2 x3 x4 x5 x6 : Bool) (w : World) : (Instr.index 130 (.agg #[.bool x0, .bool x1, .bool x2, .bool x3, .bool x4, .bool x5, .bool x6]) (.int .i64 1)).run Try.prog w = .ok (.bool x1) w := by kernel_rfl
theorem ix7_2 (x0 x1 x2 x3 x4 x5 x6 : Bool) (w : World) : (Instr.index 130 (.agg #[.bool x0, .bool x1, .bool x2, .bool x3, .bool x4, .bool x5, .bool x6]) (.int .i64 2)).run Try.prog w = .ok (.bool x2) w := by kernel_rfl
theorem ix7_3 (x0 x1 x2 x3 x4 x5 x6 : Bool) (w : World) : (Instr.index 130 (.agg #[.bool x0, .bool x1, .bool x2, .bool x3, .bool x4, .bool x5, .bool x6]) (.int .i64 3)).run Try.prog w = .ok (.bool x3) w := by kernel_rfl
theorem ix7_4 (x0 x1 x2 x3 x4 x5 x6 : Bool) (w : World) : (Instr.index 130 (.agg #[.bool x0, .bool x1, .bool x2, .bool x3, .bool x4, .bool x5, .bool x6]) (.int .i64 4)).run Try.prog w = .ok (.bool x4) w := by kernel_rfl
theorem ix7_5 (x0 x1 x2 x3 x4 x5 x6 : Bool) (w : World) : (Instr.index 130 (.agg #[.bool x0, .bool x1, .bool x2, .bool x3, .bool x4, .bool x5, .bool x6]) (.int .i64 5)).run Try.prog w = .ok (.bool x5) w := by kernel_rfl
theorem ix7_6 (x0 x1 x2 x3 x4 x5 x6 : Bool) (w : World) : (Instr.index 130 (.agg #[.bool x0, .bool x1, .bool x2, .bool x3, .bool x4, .bool x5, .bool x6]) (.int .i64 6)).run Try.prog w = .ok (.bool x6) w := by kernel_rfl
def nin (x : Int) : Bool := decide (0 ≤ x) && decide (x ≤ 4611686018427387903)
theorem nin_lt {x : Int} (h : x < 0) : nin x = false := by unfold nin; rw [decide_eq_false (by omega)]; rfl
theorem nin_gt {x : Int} (h : 4611686018427387903 < x) : nin x = false := by unfold nin; rw [decide_eq_false (p := x ≤ 4611686018427387903) (by omega)]; simp
theorem nin_in {x : Int} (h0 : ¬ x < 0) (h1 : ¬ 4611686018427387903 < x) : nin x = true := by unfold nin; rw [decide_eq_true (by omega), decide_eq_true (by omega)]; rfl
set_option maxRecDepth 20000 in
set_option maxHeartbeats 1000000 in
theorem vn_0lt (k a b c : Int) (fin : Bool) (ad at' ar : Option Addr) (nd pd nt pt nr pr : Nat) (w : World) (hx : a < 0) : Calls Try.prog 43 #[.agg #[.int .i64 k, .int .i64 a, .int .i64 b, .int .i64 c, .bool fin, .slice ad nd pd, .slice at' nt pt, .slice ar nr pr]] w fun e w' => e = .returned (.bool false) ∧ Below w.heap.size w w' := by
  have q0 := ix3_0
  go_enter Try.func43, Try.ntmps43
  go_wp2_with fail
  refine wp_loop_rounds 4 ?_
  rw [rounds_succ]
  go_wp2
  go_ret
  exact ⟨rfl, (Below.refl _ _).alloc (Nat.le_refl _) _⟩
set_option maxRecDepth 20000 in
set_option maxHeartbeats 1000000 in
theorem vn_0gt (k a b c : Int) (fin : Bool) (ad at' ar : Option Addr) (nd pd nt pt nr pr : Nat) (w : World) (lx : ¬ a < 0) (hx : 4611686018427387903 < a) : Calls Try.prog 43 #[.agg #[.int .i64 k, .int .i64 a, .int .i64 b, .int .i64 c, .bool fin, .slice ad nd pd, .slice at' nt pt, .slice ar nr pr]] w fun e w' => e = .returned (.bool false) ∧ Below w.heap.size w w' := by
  replace lx : decide (a < 0) = false := decide_eq_false lx
  have q0 := ix3_0
  go_enter Try.func43, Try.ntmps43
  go_wp2_with fail
  refine wp_loop_rounds 4 ?_
  rw [rounds_succ]
  go_wp2
  go_ret
  exact ⟨rfl, (Below.refl _ _).alloc (Nat.le_refl _) _⟩
set_option maxRecDepth 20000 in
set_option maxHeartbeats 1000000 in
theorem vn_1lt (k a b c : Int) (fin : Bool) (ad at' ar : Option Addr) (nd pd nt pt nr pr : Nat) (w : World) (la : ¬ a < 0) (ga : ¬ 4611686018427387903 < a) (hx : b < 0) : Calls Try.prog 43 #[.agg #[.int .i64 k, .int .i64 a, .int .i64 b, .int .i64 c, .bool fin, .slice ad nd pd, .slice at' nt pt, .slice ar nr pr]] w fun e w' => e = .returned (.bool false) ∧ Below w.heap.size w w' := by
  replace la : decide (a < 0) = false := decide_eq_false la
  replace ga : decide (4611686018427387903 < a) = false := decide_eq_false ga
  have q0 := ix3_0
  have q1 := ix3_1
  go_enter Try.func43, Try.ntmps43
  go_wp2_with fail
  refine wp_loop_rounds 4 ?_
  rw [rounds_succ]
  go_wp2_with fail
  rw [rounds_succ]
  go_wp2
  go_ret
  exact ⟨rfl, (Below.refl _ _).alloc (Nat.le_refl _) _⟩
set_option maxRecDepth 20000 in
set_option maxHeartbeats 1000000 in
theorem vn_1gt (k a b c : Int) (fin : Bool) (ad at' ar : Option Addr) (nd pd nt pt nr pr : Nat) (w : World) (la : ¬ a < 0) (ga : ¬ 4611686018427387903 < a) (lx : ¬ b < 0) (hx : 4611686018427387903 < b) : Calls Try.prog 43 #[.agg #[.int .i64 k, .int .i64 a, .int .i64 b, .int .i64 c, .bool fin, .slice ad nd pd, .slice at' nt pt, .slice ar nr pr]] w fun e w' => e = .returned (.bool false) ∧ Below w.heap.size w w' := by
  replace la : decide (a < 0) = false := decide_eq_false la
  replace ga : decide (4611686018427387903 < a) = false := decide_eq_false ga
  replace lx : decide (b < 0) = false := decide_eq_false lx
  have q0 := ix3_0
  have q1 := ix3_1
  go_enter Try.func43, Try.ntmps43
  go_wp2_with fail
  refine wp_loop_rounds 4 ?_
  rw [rounds_succ]
  go_wp2_with fail
  rw [rounds_succ]
  go_wp2
  go_ret
  exact ⟨rfl, (Below.refl _ _).alloc (Nat.le_refl _) _⟩
set_option maxRecDepth 20000 in
set_option maxHeartbeats 1000000 in
theorem vn_2lt (k a b c : Int) (fin : Bool) (ad at' ar : Option Addr) (nd pd nt pt nr pr : Nat) (w : World) (la : ¬ a < 0) (ga : ¬ 4611686018427387903 < a) (lb : ¬ b < 0) (gb : ¬ 4611686018427387903 < b) (hx : c < 0) : Calls Try.prog 43 #[.agg #[.int .i64 k, .int .i64 a, .int .i64 b, .int .i64 c, .bool fin, .slice ad nd pd, .slice at' nt pt, .slice ar nr pr]] w fun e w' => e = .returned (.bool false) ∧ Below w.heap.size w w' := by
  replace la : decide (a < 0) = false := decide_eq_false la
  replace ga : decide (4611686018427387903 < a) = false := decide_eq_false ga
  replace lb : decide (b < 0) = false := decide_eq_false lb
  replace gb : decide (4611686018427387903 < b) = false := decide_eq_false gb
  have q0 := ix3_0
  have q1 := ix3_1
  have q2 := ix3_2
  go_enter Try.func43, Try.ntmps43
  go_wp2_with fail
  refine wp_loop_rounds 4 ?_
  rw [rounds_succ]
  go_wp2_with fail
  rw [rounds_succ]
  go_wp2_with fail
  rw [rounds_succ]
  go_wp2
  go_ret
  exact ⟨rfl, (Below.refl _ _).alloc (Nat.le_refl _) _⟩
set_option maxRecDepth 20000 in
set_option maxHeartbeats 1000000 in
theorem vn_2gt (k a b c : Int) (fin : Bool) (ad at' ar : Option Addr) (nd pd nt pt nr pr : Nat) (w : World) (la : ¬ a < 0) (ga : ¬ 4611686018427387903 < a) (lb : ¬ b < 0) (gb : ¬ 4611686018427387903 < b) (lx : ¬ c < 0) (hx : 4611686018427387903 < c) : Calls Try.prog 43 #[.agg #[.int .i64 k, .int .i64 a, .int .i64 b, .int .i64 c, .bool fin, .slice ad nd pd, .slice at' nt pt, .slice ar nr pr]] w fun e w' => e = .returned (.bool false) ∧ Below w.heap.size w w' := by
  replace la : decide (a < 0) = false := decide_eq_false la
  replace ga : decide (4611686018427387903 < a) = false := decide_eq_false ga
  replace lb : decide (b < 0) = false := decide_eq_false lb
  replace gb : decide (4611686018427387903 < b) = false := decide_eq_false gb
  replace lx : decide (c < 0) = false := decide_eq_false lx
  have q0 := ix3_0
  have q1 := ix3_1
  have q2 := ix3_2
  go_enter Try.func43, Try.ntmps43
  go_wp2_with fail
  refine wp_loop_rounds 4 ?_
  rw [rounds_succ]
  go_wp2_with fail
  rw [rounds_succ]
  go_wp2_with fail
  rw [rounds_succ]
  go_wp2
  go_ret
  exact ⟨rfl, (Below.refl _ _).alloc (Nat.le_refl _) _⟩
set_option maxRecDepth 20000 in
set_option maxHeartbeats 1000000 in
theorem vn_3 (k a b c : Int) (fin : Bool) (ad at' ar : Option Addr) (nd pd nt pt nr pr : Nat) (w : World) (la : ¬ a < 0) (ga : ¬ 4611686018427387903 < a) (lb : ¬ b < 0) (gb : ¬ 4611686018427387903 < b) (lc : ¬ c < 0) (gc : ¬ 4611686018427387903 < c) : Calls Try.prog 43 #[.agg #[.int .i64 k, .int .i64 a, .int .i64 b, .int .i64 c, .bool fin, .slice ad nd pd, .slice at' nt pt, .slice ar nr pr]] w fun e w' => e = .returned (.bool true) ∧ Below w.heap.size w w' := by
  replace la : decide (a < 0) = false := decide_eq_false la
  replace ga : decide (4611686018427387903 < a) = false := decide_eq_false ga
  replace lb : decide (b < 0) = false := decide_eq_false lb
  replace gb : decide (4611686018427387903 < b) = false := decide_eq_false gb
  replace lc : decide (c < 0) = false := decide_eq_false lc
  replace gc : decide (4611686018427387903 < c) = false := decide_eq_false gc
  have q0 := ix3_0
  have q1 := ix3_1
  have q2 := ix3_2
  go_enter Try.func43, Try.ntmps43
  go_wp2_with fail
  refine wp_loop_rounds 4 ?_
  rw [rounds_succ]
  go_wp2_with fail
  rw [rounds_succ]
  go_wp2_with fail
  rw [rounds_succ]
  go_wp2_with fail
  rw [rounds_succ]
  go_wp2
  go_ret
  exact ⟨rfl, (Below.refl _ _).alloc (Nat.le_refl _) _⟩
theorem vnC (k a b c : Int) (fin : Bool) (ad at' ar : Option Addr) (nd pd nt pt nr pr : Nat) (w : World) : Calls Try.prog 43 #[.agg #[.int .i64 k, .int .i64 a, .int .i64 b, .int .i64 c, .bool fin, .slice ad nd pd, .slice at' nt pt, .slice ar nr pr]] w fun e w' => e = .returned (.bool (nin a && nin b && nin c)) ∧ Below w.heap.size w w' := by
  by_cases la : a < 0
  · rw [show (nin a && nin b && nin c) = false by rw [nin_lt la]; simp]; exact vn_0lt k a b c fin ad at' ar nd pd nt pt nr pr w la
  by_cases ga : 4611686018427387903 < a
  · rw [show (nin a && nin b && nin c) = false by rw [nin_gt ga]; simp]; exact vn_0gt k a b c fin ad at' ar nd pd nt pt nr pr w la ga
  by_cases lb : b < 0
  · rw [show (nin a && nin b && nin c) = false by rw [nin_in la ga, nin_lt lb]; simp]; exact vn_1lt k a b c fin ad at' ar nd pd nt pt nr pr w la ga lb
  by_cases gb : 4611686018427387903 < b
  · rw [show (nin a && nin b && nin c) = false by rw [nin_in la ga, nin_gt gb]; simp]; exact vn_1gt k a b c fin ad at' ar nd pd nt pt nr pr w la ga lb gb
  by_cases lc : c < 0
  · rw [show (nin a && nin b && nin c) = false by rw [nin_in la ga, nin_in lb gb, nin_lt lc]; simp]; exact vn_2lt k a b c fin ad at' ar nd pd nt pt nr pr w la ga lb gb lc
  by_cases gc : 4611686018427387903 < c
  · rw [show (nin a && nin b && nin c) = false by rw [nin_in la ga, nin_in lb gb, nin_gt gc]; simp]; exact vn_2gt k a b c fin ad at' ar nd pd nt pt nr pr w la ga lb gb lc gc
  rw [show (nin a && nin b && nin c) = true by rw [nin_in la ga, nin_in lb gb, nin_in lc gc]; rfl]; exact vn_3 k a b c fin ad at' ar nd pd nt pt nr pr w la ga lb gb lc gc
def orB (b : Bool) (s m : Int) : Int := if b then bits .or .i64 s m else s
def bitOf (b0 b1 b2 b3 b4 b5 b6 : Bool) : Nat → Bool | 0 => b0 | 1 => b1 | 2 => b2 | 3 => b3 | 4 => b4 | 5 => b5 | _ => b6
def powOf : Nat → Int | 0 => 1 | 1 => 2 | 2 => 4 | 3 => 8 | 4 => 16 | 5 => 32 | _ => 64
def sfK (f : Nat → Bool) : Nat → Int | 0 => 0 | n + 1 => orB (f n) (sfK f n) (powOf n)
set_option maxRecDepth 20000 in
set_option maxHeartbeats 4000000 in
theorem sfC (k a b c : Int) (ad at' ar : Option Addr) (nd pd nt pt nr pr : Nat) (b0 b1 b2 b3 b4 b5 b6 : Bool) (w : World) (h0 : (a != 0) = b0) (h1 : (b != 0) = b1) (h2 : (c != 0) = b2) (h4 : ((nd : Int) != 0) = b4) (h5 : ((nt : Int) != 0) = b5) (h6 : ((nr : Int) != 0) = b6) :
    Calls Try.prog 45 #[.agg #[.int .i64 k, .int .i64 a, .int .i64 b, .int .i64 c, .bool b3, .slice ad nd pd, .slice at' nt pt, .slice ar nr pr]] w fun e w' => e = .returned (.int .i64 (sfK (bitOf b0 b1 b2 b3 b4 b5 b6) 7)) ∧ Below w.heap.size w w' := by
  have FB : Hid _ := And.intro (rfl : (bitOf b0 b1 b2 b3 b4 b5 b6) = (bitOf b0 b1 b2 b3 b4 b5 b6)) True.intro
  have q0 := ix7_0
  have q1 := ix7_1
  have q2 := ix7_2
  have q3 := ix7_3
  have q4 := ix7_4
  have q5 := ix7_5
  have q6 := ix7_6
  go_enter Try.func45, Try.ntmps45
  go_wp2_with fail
  clear h0 h1 h2 h4 h5 h6
  go_loopg [3, 30] 7 (fun q s i wr => ∃ k : Nat, k ≤ 7 ∧ q = 7 - k ∧ i = .int .i64 (k : Int) ∧ s = .int .i64 (sfK (bitOf b0 b1 b2 b3 b4 b5 b6) k) ∧ Below w.heap.size w wr)
  case atStart => exact ⟨0, by omega, by omega, rfl, rfl, (Below.refl _ _).alloc (Nat.le_refl _) _⟩
  case round =>
    obtain ⟨k, hk, hq, rfl, rfl, bw⟩ := hrel
    have H1 : Hid _ := And.intro bw True.intro
    clear bw
    by_cases k7 : k = 7
    · subst k7
      rw [show ((7 : Nat) : Int) = 7 from rfl]
      go_wp2
      go_ret
      exact ⟨rfl, H1.out.1⟩
    by_cases k0 : k = 0
    · subst k0
      rw [show ((0 : Nat) : Int) = 0 from rfl]
      obtain ⟨s, es⟩ : ∃ s, s = sfK (bitOf b0 b1 b2 b3 b4 b5 b6) 0 := ⟨_, rfl⟩
      rw [← es]
      have ES : Hid _ := And.intro es True.intro
      clear es
      cases b0
      · go_wp2
        go_roundg (7 - 1)
        case measure => omega
        case rel => exact ⟨1, by omega, rfl, by go_num, by rw [ES.out.1]; rfl, H1.out.1⟩
      · go_wp2
        go_roundg (7 - 1)
        case measure => omega
        case rel => exact ⟨1, by omega, rfl, by go_num, by rw [ES.out.1]; rfl, H1.out.1⟩
    by_cases k1 : k = 1
    · subst k1
      rw [show ((1 : Nat) : Int) = 1 from rfl]
      obtain ⟨s, es⟩ : ∃ s, s = sfK (bitOf b0 b1 b2 b3 b4 b5 b6) 1 := ⟨_, rfl⟩
      rw [← es]
      have ES : Hid _ := And.intro es True.intro
      clear es
      cases b1
      · go_wp2
        go_roundg (7 - 2)
        case measure => omega
        case rel => exact ⟨2, by omega, rfl, by go_num, by rw [ES.out.1]; rfl, H1.out.1⟩
      · go_wp2
        go_roundg (7 - 2)
        case measure => omega
        case rel => exact ⟨2, by omega, rfl, by go_num, by rw [ES.out.1]; rfl, H1.out.1⟩
    by_cases k2 : k = 2
    · subst k2
      rw [show ((2 : Nat) : Int) = 2 from rfl]
      obtain ⟨s, es⟩ : ∃ s, s = sfK (bitOf b0 b1 b2 b3 b4 b5 b6) 2 := ⟨_, rfl⟩
      rw [← es]
      have ES : Hid _ := And.intro es True.intro
      clear es
      cases b2
      · go_wp2
        go_roundg (7 - 3)
        case measure => omega
        case rel => exact ⟨3, by omega, rfl, by go_num, by rw [ES.out.1]; rfl, H1.out.1⟩
      · go_wp2
        go_roundg (7 - 3)
        case measure => omega
        case rel => exact ⟨3, by omega, rfl, by go_num, by rw [ES.out.1]; rfl, H1.out.1⟩
    by_cases k3 : k = 3
    · subst k3
      rw [show ((3 : Nat) : Int) = 3 from rfl]
      obtain ⟨s, es⟩ : ∃ s, s = sfK (bitOf b0 b1 b2 b3 b4 b5 b6) 3 := ⟨_, rfl⟩
      rw [← es]
      have ES : Hid _ := And.intro es True.intro
      clear es
      cases b3
      · go_wp2
        go_roundg (7 - 4)
        case measure => omega
        case rel => exact ⟨4, by omega, rfl, by go_num, by rw [ES.out.1]; rfl, H1.out.1⟩
      · go_wp2
        go_roundg (7 - 4)
        case measure => omega
        case rel => exact ⟨4, by omega, rfl, by go_num, by rw [ES.out.1]; rfl, H1.out.1⟩
    by_cases k4 : k = 4
    · subst k4
      rw [show ((4 : Nat) : Int) = 4 from rfl]
      obtain ⟨s, es⟩ : ∃ s, s = sfK (bitOf b0 b1 b2 b3 b4 b5 b6) 4 := ⟨_, rfl⟩
      rw [← es]
      have ES : Hid _ := And.intro es True.intro
      clear es
      cases b4
      · go_wp2
        go_roundg (7 - 5)
        case measure => omega
        case rel => exact ⟨5, by omega, rfl, by go_num, by rw [ES.out.1]; rfl, H1.out.1⟩
      · go_wp2
        go_roundg (7 - 5)
        case measure => omega
        case rel => exact ⟨5, by omega, rfl, by go_num, by rw [ES.out.1]; rfl, H1.out.1⟩
    by_cases k5 : k = 5
    · subst k5
      rw [show ((5 : Nat) : Int) = 5 from rfl]
      obtain ⟨s, es⟩ : ∃ s, s = sfK (bitOf b0 b1 b2 b3 b4 b5 b6) 5 := ⟨_, rfl⟩
      rw [← es]
      have ES : Hid _ := And.intro es True.intro
      clear es
      cases b5
      · go_wp2
        go_roundg (7 - 6)
        case measure => omega
        case rel => exact ⟨6, by omega, rfl, by go_num, by rw [ES.out.1]; rfl, H1.out.1⟩
      · go_wp2
        go_roundg (7 - 6)
        case measure => omega
        case rel => exact ⟨6, by omega, rfl, by go_num, by rw [ES.out.1]; rfl, H1.out.1⟩
    by_cases k6 : k = 6
    · subst k6
      rw [show ((6 : Nat) : Int) = 6 from rfl]
      obtain ⟨s, es⟩ : ∃ s, s = sfK (bitOf b0 b1 b2 b3 b4 b5 b6) 6 := ⟨_, rfl⟩
      rw [← es]
      have ES : Hid _ := And.intro es True.intro
      clear es
      cases b6
      · go_wp2
        go_roundg (7 - 7)
        case measure => omega
        case rel => exact ⟨7, by omega, rfl, by go_num, by rw [ES.out.1]; rfl, H1.out.1⟩
      · go_wp2
        go_roundg (7 - 7)
        case measure => omega
        case rel => exact ⟨7, by omega, rfl, by go_num, by rw [ES.out.1]; rfl, H1.out.1⟩
    omega
end Go.Proofs.Ytaodcahkkeobdaa
