import Derived.Test.YtkjfpgdnhdnceahHigh
import Derived.Test.YtkjfpgdnhdnceahEqBytes
import Derived.Test.YtkjfpgdnhdnceahMarkBytes
namespace Go.Proofs.Ytkjfpgdnhdnceah
open Go.RowKit
set_option linter.unusedVariables false

theorem power_1 (w : World) : Calls Try.prog 13 #[.int .i64 1] w fun e w' => e = .returned (.int .i64 256) ∧ w' = w := by
  go_enter Try.func13, Try.ntmps13
  go_wp2
  refine wp_loop_rounds 2 ?_
  rw [rounds_succ]
  go_wp2
  rw [rounds_succ]
  go_wp2
  go_ret
  exact ⟨rfl, rfl⟩

theorem power_2 (w : World) : Calls Try.prog 13 #[.int .i64 2] w fun e w' => e = .returned (.int .i64 65536) ∧ w' = w := by
  go_enter Try.func13, Try.ntmps13
  go_wp2
  refine wp_loop_rounds 3 ?_
  rw [rounds_succ]
  go_wp2
  rw [rounds_succ]
  go_wp2
  rw [rounds_succ]
  go_wp2
  go_ret
  exact ⟨rfl, rfl⟩

theorem power_3 (w : World) : Calls Try.prog 13 #[.int .i64 3] w fun e w' => e = .returned (.int .i64 16777216) ∧ w' = w := by
  go_enter Try.func13, Try.ntmps13
  go_wp2
  refine wp_loop_rounds 4 ?_
  rw [rounds_succ]
  go_wp2
  rw [rounds_succ]
  go_wp2
  rw [rounds_succ]
  go_wp2
  rw [rounds_succ]
  go_wp2
  go_ret
  exact ⟨rfl, rfl⟩

theorem power_4 (w : World) : Calls Try.prog 13 #[.int .i64 4] w fun e w' => e = .returned (.int .i64 4294967296) ∧ w' = w := by
  go_enter Try.func13, Try.ntmps13
  go_wp2
  refine wp_loop_rounds 5 ?_
  rw [rounds_succ]
  go_wp2
  rw [rounds_succ]
  go_wp2
  rw [rounds_succ]
  go_wp2
  rw [rounds_succ]
  go_wp2
  rw [rounds_succ]
  go_wp2
  go_ret
  exact ⟨rfl, rfl⟩

theorem power_5 (w : World) : Calls Try.prog 13 #[.int .i64 5] w fun e w' => e = .returned (.int .i64 1099511627776) ∧ w' = w := by
  go_enter Try.func13, Try.ntmps13
  go_wp2
  refine wp_loop_rounds 6 ?_
  rw [rounds_succ]
  go_wp2
  rw [rounds_succ]
  go_wp2
  rw [rounds_succ]
  go_wp2
  rw [rounds_succ]
  go_wp2
  rw [rounds_succ]
  go_wp2
  rw [rounds_succ]
  go_wp2
  go_ret
  exact ⟨rfl, rfl⟩

theorem power_6 (w : World) : Calls Try.prog 13 #[.int .i64 6] w fun e w' => e = .returned (.int .i64 281474976710656) ∧ w' = w := by
  go_enter Try.func13, Try.ntmps13
  go_wp2
  refine wp_loop_rounds 7 ?_
  rw [rounds_succ]
  go_wp2
  rw [rounds_succ]
  go_wp2
  rw [rounds_succ]
  go_wp2
  rw [rounds_succ]
  go_wp2
  rw [rounds_succ]
  go_wp2
  rw [rounds_succ]
  go_wp2
  rw [rounds_succ]
  go_wp2
  go_ret
  exact ⟨rfl, rfl⟩

theorem power_7 (w : World) : Calls Try.prog 13 #[.int .i64 7] w fun e w' => e = .returned (.int .i64 72057594037927936) ∧ w' = w := by
  go_enter Try.func13, Try.ntmps13
  go_wp2
  refine wp_loop_rounds 8 ?_
  rw [rounds_succ]
  go_wp2
  rw [rounds_succ]
  go_wp2
  rw [rounds_succ]
  go_wp2
  rw [rounds_succ]
  go_wp2
  rw [rounds_succ]
  go_wp2
  rw [rounds_succ]
  go_wp2
  rw [rounds_succ]
  go_wp2
  rw [rounds_succ]
  go_wp2
  go_ret
  exact ⟨rfl, rfl⟩

theorem fits_1 (v : Int) (w : World) (h0 : 0 ≤ v) (hm : v ≤ 9223372036854775807) (h1 : v < 256) : Calls Try.prog 15 #[.int .u64 v, .int .i64 1] w fun e w' => e = .returned (.bool true) ∧ w' = w := by
  have hq : (v / 256 == 0) = true := by rw [beq_iff_eq]; omega
  go_enter Try.func15, Try.ntmps15
  go_wp2
  go_ret
  exact ⟨rfl, rfl⟩
set_option maxHeartbeats 400000 in
theorem specFixed_1 (v : Int) (w : World) (h0 : 0 ≤ v) (hm : v ≤ 9223372036854775807) (h1 : v < 256) :
    Calls Try.prog 5 #[.int .i64 v, .int .i64 1] w fun e w' => ∃ r, e = .returned (.tuple #[r, .int .i64 0]) ∧ w'.ownsRow w.heap.size 5 1 r 1 ((be v 1).map (Value.int .u8)) ∧ Below w.heap.size w w' := by
  have hd : ∀ w : World, Calls Try.prog 14 #[.int .i64 v, .int .i64 1] w fun e w' => ∃ r, e = .returned r ∧ w'.ownsRow w.heap.size 5 1 r 1 ((be v 1).map (Value.int .u8)) ∧ Below w.heap.size w w' :=
    fun w => digits 1 v w h0 hm (by decide)
  go_enter Try.func5, Try.ntmps5
  go_wp2_with (first
    | (go_at_call 13; refine (power_1 _).mono ?_; rintro e w' ⟨rfl, rfl⟩)
    | (go_at_call 14; refine (hd _).mono ?_; rintro e w1 ⟨r, rfl, hown, hb⟩))
  go_ret2
  exact ⟨r, rfl, hown, hb⟩
set_option maxHeartbeats 400000 in
theorem implFixed_1 (v : Int) (w : World) (h0 : 0 ≤ v) (hm : v ≤ 9223372036854775807) (h1 : v < 256) :
    Calls Try.prog 6 #[.int .i64 v, .int .i64 1] w fun e w' => ∃ r, e = .returned (.tuple #[r, .int .i64 0]) ∧ w'.ownsRow w.heap.size 5 1 r 1 ((be v 1).map (Value.int .u8)) ∧ Below w.heap.size w w' := by
  have hd : ∀ w : World, Calls Try.prog 16 #[.int .u64 v, .int .i64 1] w fun e w' => ∃ r, e = .returned r ∧ w'.ownsRow w.heap.size 5 1 r 1 ((be v 1).map (Value.int .u8)) ∧ Below w.heap.size w w' :=
    fun w => high v 1 w h0 hm (by decide)
  go_enter Try.func6, Try.ntmps6
  go_wp2_with (first
    | (go_at_call 15; refine (fits_1 v _ h0 hm h1).mono ?_; rintro e w' ⟨rfl, rfl⟩)
    | (go_at_call 16; refine (hd _).mono ?_; rintro e w1 ⟨r, rfl, hown, hb⟩))
  go_ret2
  exact ⟨r, rfl, hown, hb⟩
theorem fitsNot_1 (v : Int) (w : World) (h0 : 0 ≤ v) (hm : v ≤ 9223372036854775807) (h1 : 256 ≤ v) : Calls Try.prog 15 #[.int .u64 v, .int .i64 1] w fun e w' => e = .returned (.bool false) ∧ w' = w := by
  have hq : (v / 256 == 0) = false := by rw [beq_eq_false_iff_ne]; omega
  go_enter Try.func15, Try.ntmps15
  go_wp2
  go_ret
  exact ⟨rfl, rfl⟩
theorem specFixedNot_1 (v : Int) (w : World) (h0 : 0 ≤ v) (hm : v ≤ 9223372036854775807) (h1 : 256 ≤ v) :
    Calls Try.prog 5 #[.int .i64 v, .int .i64 1] w fun e w' => ∃ r, e = .returned (.tuple #[r, .int .i64 1]) ∧ w'.ownsRow w.heap.size 5 1 r 0 (([] : List Int).map (Value.int .u8)) ∧ Below w.heap.size w w' := by
  go_enter Try.func5, Try.ntmps5
  go_wp2_with (go_at_call 13; refine (power_1 _).mono ?_; rintro e w' ⟨rfl, rfl⟩)
  go_ret2
  exact ⟨_, rfl, World.ownsRow_lit _ #[] 0 (Nat.le_refl _) (by decide) rfl, (Below.refl _ _).alloc (Nat.le_refl _) _⟩
theorem implFixedNot_1 (v : Int) (w : World) (h0 : 0 ≤ v) (hm : v ≤ 9223372036854775807) (h1 : 256 ≤ v) :
    Calls Try.prog 6 #[.int .i64 v, .int .i64 1] w fun e w' => ∃ r, e = .returned (.tuple #[r, .int .i64 1]) ∧ w'.ownsRow w.heap.size 5 1 r 0 (([] : List Int).map (Value.int .u8)) ∧ Below w.heap.size w w' := by
  go_enter Try.func6, Try.ntmps6
  go_wp2_with (go_at_call 15; refine (fitsNot_1 v _ h0 hm h1).mono ?_; rintro e w' ⟨rfl, rfl⟩)
  go_ret2
  exact ⟨_, rfl, World.ownsRow_nil _ _ _ _, Below.refl _ _⟩

theorem fits_2 (v : Int) (w : World) (h0 : 0 ≤ v) (hm : v ≤ 9223372036854775807) (h1 : v < 65536) : Calls Try.prog 15 #[.int .u64 v, .int .i64 2] w fun e w' => e = .returned (.bool true) ∧ w' = w := by
  have hq : (v / 65536 == 0) = true := by rw [beq_iff_eq]; omega
  go_enter Try.func15, Try.ntmps15
  go_wp2
  go_ret
  exact ⟨rfl, rfl⟩
set_option maxHeartbeats 400000 in
theorem specFixed_2 (v : Int) (w : World) (h0 : 0 ≤ v) (hm : v ≤ 9223372036854775807) (h1 : v < 65536) :
    Calls Try.prog 5 #[.int .i64 v, .int .i64 2] w fun e w' => ∃ r, e = .returned (.tuple #[r, .int .i64 0]) ∧ w'.ownsRow w.heap.size 5 1 r 2 ((be v 2).map (Value.int .u8)) ∧ Below w.heap.size w w' := by
  have hd : ∀ w : World, Calls Try.prog 14 #[.int .i64 v, .int .i64 2] w fun e w' => ∃ r, e = .returned r ∧ w'.ownsRow w.heap.size 5 1 r 2 ((be v 2).map (Value.int .u8)) ∧ Below w.heap.size w w' :=
    fun w => digits 2 v w h0 hm (by decide)
  go_enter Try.func5, Try.ntmps5
  go_wp2_with (first
    | (go_at_call 13; refine (power_2 _).mono ?_; rintro e w' ⟨rfl, rfl⟩)
    | (go_at_call 14; refine (hd _).mono ?_; rintro e w1 ⟨r, rfl, hown, hb⟩))
  go_ret2
  exact ⟨r, rfl, hown, hb⟩
set_option maxHeartbeats 400000 in
theorem implFixed_2 (v : Int) (w : World) (h0 : 0 ≤ v) (hm : v ≤ 9223372036854775807) (h1 : v < 65536) :
    Calls Try.prog 6 #[.int .i64 v, .int .i64 2] w fun e w' => ∃ r, e = .returned (.tuple #[r, .int .i64 0]) ∧ w'.ownsRow w.heap.size 5 1 r 2 ((be v 2).map (Value.int .u8)) ∧ Below w.heap.size w w' := by
  have hd : ∀ w : World, Calls Try.prog 16 #[.int .u64 v, .int .i64 2] w fun e w' => ∃ r, e = .returned r ∧ w'.ownsRow w.heap.size 5 1 r 2 ((be v 2).map (Value.int .u8)) ∧ Below w.heap.size w w' :=
    fun w => high v 2 w h0 hm (by decide)
  go_enter Try.func6, Try.ntmps6
  go_wp2_with (first
    | (go_at_call 15; refine (fits_2 v _ h0 hm h1).mono ?_; rintro e w' ⟨rfl, rfl⟩)
    | (go_at_call 16; refine (hd _).mono ?_; rintro e w1 ⟨r, rfl, hown, hb⟩))
  go_ret2
  exact ⟨r, rfl, hown, hb⟩
theorem fitsNot_2 (v : Int) (w : World) (h0 : 0 ≤ v) (hm : v ≤ 9223372036854775807) (h1 : 65536 ≤ v) : Calls Try.prog 15 #[.int .u64 v, .int .i64 2] w fun e w' => e = .returned (.bool false) ∧ w' = w := by
  have hq : (v / 65536 == 0) = false := by rw [beq_eq_false_iff_ne]; omega
  go_enter Try.func15, Try.ntmps15
  go_wp2
  go_ret
  exact ⟨rfl, rfl⟩
theorem specFixedNot_2 (v : Int) (w : World) (h0 : 0 ≤ v) (hm : v ≤ 9223372036854775807) (h1 : 65536 ≤ v) :
    Calls Try.prog 5 #[.int .i64 v, .int .i64 2] w fun e w' => ∃ r, e = .returned (.tuple #[r, .int .i64 1]) ∧ w'.ownsRow w.heap.size 5 1 r 0 (([] : List Int).map (Value.int .u8)) ∧ Below w.heap.size w w' := by
  go_enter Try.func5, Try.ntmps5
  go_wp2_with (go_at_call 13; refine (power_2 _).mono ?_; rintro e w' ⟨rfl, rfl⟩)
  go_ret2
  exact ⟨_, rfl, World.ownsRow_lit _ #[] 0 (Nat.le_refl _) (by decide) rfl, (Below.refl _ _).alloc (Nat.le_refl _) _⟩
theorem implFixedNot_2 (v : Int) (w : World) (h0 : 0 ≤ v) (hm : v ≤ 9223372036854775807) (h1 : 65536 ≤ v) :
    Calls Try.prog 6 #[.int .i64 v, .int .i64 2] w fun e w' => ∃ r, e = .returned (.tuple #[r, .int .i64 1]) ∧ w'.ownsRow w.heap.size 5 1 r 0 (([] : List Int).map (Value.int .u8)) ∧ Below w.heap.size w w' := by
  go_enter Try.func6, Try.ntmps6
  go_wp2_with (go_at_call 15; refine (fitsNot_2 v _ h0 hm h1).mono ?_; rintro e w' ⟨rfl, rfl⟩)
  go_ret2
  exact ⟨_, rfl, World.ownsRow_nil _ _ _ _, Below.refl _ _⟩

theorem fits_3 (v : Int) (w : World) (h0 : 0 ≤ v) (hm : v ≤ 9223372036854775807) (h1 : v < 16777216) : Calls Try.prog 15 #[.int .u64 v, .int .i64 3] w fun e w' => e = .returned (.bool true) ∧ w' = w := by
  have hq : (v / 16777216 == 0) = true := by rw [beq_iff_eq]; omega
  go_enter Try.func15, Try.ntmps15
  go_wp2
  go_ret
  exact ⟨rfl, rfl⟩
set_option maxHeartbeats 400000 in
theorem specFixed_3 (v : Int) (w : World) (h0 : 0 ≤ v) (hm : v ≤ 9223372036854775807) (h1 : v < 16777216) :
    Calls Try.prog 5 #[.int .i64 v, .int .i64 3] w fun e w' => ∃ r, e = .returned (.tuple #[r, .int .i64 0]) ∧ w'.ownsRow w.heap.size 5 1 r 3 ((be v 3).map (Value.int .u8)) ∧ Below w.heap.size w w' := by
  have hd : ∀ w : World, Calls Try.prog 14 #[.int .i64 v, .int .i64 3] w fun e w' => ∃ r, e = .returned r ∧ w'.ownsRow w.heap.size 5 1 r 3 ((be v 3).map (Value.int .u8)) ∧ Below w.heap.size w w' :=
    fun w => digits 3 v w h0 hm (by decide)
  go_enter Try.func5, Try.ntmps5
  go_wp2_with (first
    | (go_at_call 13; refine (power_3 _).mono ?_; rintro e w' ⟨rfl, rfl⟩)
    | (go_at_call 14; refine (hd _).mono ?_; rintro e w1 ⟨r, rfl, hown, hb⟩))
  go_ret2
  exact ⟨r, rfl, hown, hb⟩
set_option maxHeartbeats 400000 in
theorem implFixed_3 (v : Int) (w : World) (h0 : 0 ≤ v) (hm : v ≤ 9223372036854775807) (h1 : v < 16777216) :
    Calls Try.prog 6 #[.int .i64 v, .int .i64 3] w fun e w' => ∃ r, e = .returned (.tuple #[r, .int .i64 0]) ∧ w'.ownsRow w.heap.size 5 1 r 3 ((be v 3).map (Value.int .u8)) ∧ Below w.heap.size w w' := by
  have hd : ∀ w : World, Calls Try.prog 16 #[.int .u64 v, .int .i64 3] w fun e w' => ∃ r, e = .returned r ∧ w'.ownsRow w.heap.size 5 1 r 3 ((be v 3).map (Value.int .u8)) ∧ Below w.heap.size w w' :=
    fun w => high v 3 w h0 hm (by decide)
  go_enter Try.func6, Try.ntmps6
  go_wp2_with (first
    | (go_at_call 15; refine (fits_3 v _ h0 hm h1).mono ?_; rintro e w' ⟨rfl, rfl⟩)
    | (go_at_call 16; refine (hd _).mono ?_; rintro e w1 ⟨r, rfl, hown, hb⟩))
  go_ret2
  exact ⟨r, rfl, hown, hb⟩
theorem fitsNot_3 (v : Int) (w : World) (h0 : 0 ≤ v) (hm : v ≤ 9223372036854775807) (h1 : 16777216 ≤ v) : Calls Try.prog 15 #[.int .u64 v, .int .i64 3] w fun e w' => e = .returned (.bool false) ∧ w' = w := by
  have hq : (v / 16777216 == 0) = false := by rw [beq_eq_false_iff_ne]; omega
  go_enter Try.func15, Try.ntmps15
  go_wp2
  go_ret
  exact ⟨rfl, rfl⟩
theorem specFixedNot_3 (v : Int) (w : World) (h0 : 0 ≤ v) (hm : v ≤ 9223372036854775807) (h1 : 16777216 ≤ v) :
    Calls Try.prog 5 #[.int .i64 v, .int .i64 3] w fun e w' => ∃ r, e = .returned (.tuple #[r, .int .i64 1]) ∧ w'.ownsRow w.heap.size 5 1 r 0 (([] : List Int).map (Value.int .u8)) ∧ Below w.heap.size w w' := by
  go_enter Try.func5, Try.ntmps5
  go_wp2_with (go_at_call 13; refine (power_3 _).mono ?_; rintro e w' ⟨rfl, rfl⟩)
  go_ret2
  exact ⟨_, rfl, World.ownsRow_lit _ #[] 0 (Nat.le_refl _) (by decide) rfl, (Below.refl _ _).alloc (Nat.le_refl _) _⟩
theorem implFixedNot_3 (v : Int) (w : World) (h0 : 0 ≤ v) (hm : v ≤ 9223372036854775807) (h1 : 16777216 ≤ v) :
    Calls Try.prog 6 #[.int .i64 v, .int .i64 3] w fun e w' => ∃ r, e = .returned (.tuple #[r, .int .i64 1]) ∧ w'.ownsRow w.heap.size 5 1 r 0 (([] : List Int).map (Value.int .u8)) ∧ Below w.heap.size w w' := by
  go_enter Try.func6, Try.ntmps6
  go_wp2_with (go_at_call 15; refine (fitsNot_3 v _ h0 hm h1).mono ?_; rintro e w' ⟨rfl, rfl⟩)
  go_ret2
  exact ⟨_, rfl, World.ownsRow_nil _ _ _ _, Below.refl _ _⟩

theorem fits_4 (v : Int) (w : World) (h0 : 0 ≤ v) (hm : v ≤ 9223372036854775807) (h1 : v < 4294967296) : Calls Try.prog 15 #[.int .u64 v, .int .i64 4] w fun e w' => e = .returned (.bool true) ∧ w' = w := by
  have hq : (v / 4294967296 == 0) = true := by rw [beq_iff_eq]; omega
  go_enter Try.func15, Try.ntmps15
  go_wp2
  go_ret
  exact ⟨rfl, rfl⟩
set_option maxHeartbeats 400000 in
theorem specFixed_4 (v : Int) (w : World) (h0 : 0 ≤ v) (hm : v ≤ 9223372036854775807) (h1 : v < 4294967296) :
    Calls Try.prog 5 #[.int .i64 v, .int .i64 4] w fun e w' => ∃ r, e = .returned (.tuple #[r, .int .i64 0]) ∧ w'.ownsRow w.heap.size 5 1 r 4 ((be v 4).map (Value.int .u8)) ∧ Below w.heap.size w w' := by
  have hd : ∀ w : World, Calls Try.prog 14 #[.int .i64 v, .int .i64 4] w fun e w' => ∃ r, e = .returned r ∧ w'.ownsRow w.heap.size 5 1 r 4 ((be v 4).map (Value.int .u8)) ∧ Below w.heap.size w w' :=
    fun w => digits 4 v w h0 hm (by decide)
  go_enter Try.func5, Try.ntmps5
  go_wp2_with (first
    | (go_at_call 13; refine (power_4 _).mono ?_; rintro e w' ⟨rfl, rfl⟩)
    | (go_at_call 14; refine (hd _).mono ?_; rintro e w1 ⟨r, rfl, hown, hb⟩))
  go_ret2
  exact ⟨r, rfl, hown, hb⟩
set_option maxHeartbeats 400000 in
theorem implFixed_4 (v : Int) (w : World) (h0 : 0 ≤ v) (hm : v ≤ 9223372036854775807) (h1 : v < 4294967296) :
    Calls Try.prog 6 #[.int .i64 v, .int .i64 4] w fun e w' => ∃ r, e = .returned (.tuple #[r, .int .i64 0]) ∧ w'.ownsRow w.heap.size 5 1 r 4 ((be v 4).map (Value.int .u8)) ∧ Below w.heap.size w w' := by
  have hd : ∀ w : World, Calls Try.prog 16 #[.int .u64 v, .int .i64 4] w fun e w' => ∃ r, e = .returned r ∧ w'.ownsRow w.heap.size 5 1 r 4 ((be v 4).map (Value.int .u8)) ∧ Below w.heap.size w w' :=
    fun w => high v 4 w h0 hm (by decide)
  go_enter Try.func6, Try.ntmps6
  go_wp2_with (first
    | (go_at_call 15; refine (fits_4 v _ h0 hm h1).mono ?_; rintro e w' ⟨rfl, rfl⟩)
    | (go_at_call 16; refine (hd _).mono ?_; rintro e w1 ⟨r, rfl, hown, hb⟩))
  go_ret2
  exact ⟨r, rfl, hown, hb⟩
theorem fitsNot_4 (v : Int) (w : World) (h0 : 0 ≤ v) (hm : v ≤ 9223372036854775807) (h1 : 4294967296 ≤ v) : Calls Try.prog 15 #[.int .u64 v, .int .i64 4] w fun e w' => e = .returned (.bool false) ∧ w' = w := by
  have hq : (v / 4294967296 == 0) = false := by rw [beq_eq_false_iff_ne]; omega
  go_enter Try.func15, Try.ntmps15
  go_wp2
  go_ret
  exact ⟨rfl, rfl⟩
theorem specFixedNot_4 (v : Int) (w : World) (h0 : 0 ≤ v) (hm : v ≤ 9223372036854775807) (h1 : 4294967296 ≤ v) :
    Calls Try.prog 5 #[.int .i64 v, .int .i64 4] w fun e w' => ∃ r, e = .returned (.tuple #[r, .int .i64 1]) ∧ w'.ownsRow w.heap.size 5 1 r 0 (([] : List Int).map (Value.int .u8)) ∧ Below w.heap.size w w' := by
  go_enter Try.func5, Try.ntmps5
  go_wp2_with (go_at_call 13; refine (power_4 _).mono ?_; rintro e w' ⟨rfl, rfl⟩)
  go_ret2
  exact ⟨_, rfl, World.ownsRow_lit _ #[] 0 (Nat.le_refl _) (by decide) rfl, (Below.refl _ _).alloc (Nat.le_refl _) _⟩
theorem implFixedNot_4 (v : Int) (w : World) (h0 : 0 ≤ v) (hm : v ≤ 9223372036854775807) (h1 : 4294967296 ≤ v) :
    Calls Try.prog 6 #[.int .i64 v, .int .i64 4] w fun e w' => ∃ r, e = .returned (.tuple #[r, .int .i64 1]) ∧ w'.ownsRow w.heap.size 5 1 r 0 (([] : List Int).map (Value.int .u8)) ∧ Below w.heap.size w w' := by
  go_enter Try.func6, Try.ntmps6
  go_wp2_with (go_at_call 15; refine (fitsNot_4 v _ h0 hm h1).mono ?_; rintro e w' ⟨rfl, rfl⟩)
  go_ret2
  exact ⟨_, rfl, World.ownsRow_nil _ _ _ _, Below.refl _ _⟩

theorem fits_5 (v : Int) (w : World) (h0 : 0 ≤ v) (hm : v ≤ 9223372036854775807) (h1 : v < 1099511627776) : Calls Try.prog 15 #[.int .u64 v, .int .i64 5] w fun e w' => e = .returned (.bool true) ∧ w' = w := by
  have hq : (v / 1099511627776 == 0) = true := by rw [beq_iff_eq]; omega
  go_enter Try.func15, Try.ntmps15
  go_wp2
  go_ret
  exact ⟨rfl, rfl⟩
set_option maxHeartbeats 400000 in
theorem specFixed_5 (v : Int) (w : World) (h0 : 0 ≤ v) (hm : v ≤ 9223372036854775807) (h1 : v < 1099511627776) :
    Calls Try.prog 5 #[.int .i64 v, .int .i64 5] w fun e w' => ∃ r, e = .returned (.tuple #[r, .int .i64 0]) ∧ w'.ownsRow w.heap.size 5 1 r 5 ((be v 5).map (Value.int .u8)) ∧ Below w.heap.size w w' := by
  have hd : ∀ w : World, Calls Try.prog 14 #[.int .i64 v, .int .i64 5] w fun e w' => ∃ r, e = .returned r ∧ w'.ownsRow w.heap.size 5 1 r 5 ((be v 5).map (Value.int .u8)) ∧ Below w.heap.size w w' :=
    fun w => digits 5 v w h0 hm (by decide)
  go_enter Try.func5, Try.ntmps5
  go_wp2_with (first
    | (go_at_call 13; refine (power_5 _).mono ?_; rintro e w' ⟨rfl, rfl⟩)
    | (go_at_call 14; refine (hd _).mono ?_; rintro e w1 ⟨r, rfl, hown, hb⟩))
  go_ret2
  exact ⟨r, rfl, hown, hb⟩
set_option maxHeartbeats 400000 in
theorem implFixed_5 (v : Int) (w : World) (h0 : 0 ≤ v) (hm : v ≤ 9223372036854775807) (h1 : v < 1099511627776) :
    Calls Try.prog 6 #[.int .i64 v, .int .i64 5] w fun e w' => ∃ r, e = .returned (.tuple #[r, .int .i64 0]) ∧ w'.ownsRow w.heap.size 5 1 r 5 ((be v 5).map (Value.int .u8)) ∧ Below w.heap.size w w' := by
  have hd : ∀ w : World, Calls Try.prog 16 #[.int .u64 v, .int .i64 5] w fun e w' => ∃ r, e = .returned r ∧ w'.ownsRow w.heap.size 5 1 r 5 ((be v 5).map (Value.int .u8)) ∧ Below w.heap.size w w' :=
    fun w => high v 5 w h0 hm (by decide)
  go_enter Try.func6, Try.ntmps6
  go_wp2_with (first
    | (go_at_call 15; refine (fits_5 v _ h0 hm h1).mono ?_; rintro e w' ⟨rfl, rfl⟩)
    | (go_at_call 16; refine (hd _).mono ?_; rintro e w1 ⟨r, rfl, hown, hb⟩))
  go_ret2
  exact ⟨r, rfl, hown, hb⟩
theorem fitsNot_5 (v : Int) (w : World) (h0 : 0 ≤ v) (hm : v ≤ 9223372036854775807) (h1 : 1099511627776 ≤ v) : Calls Try.prog 15 #[.int .u64 v, .int .i64 5] w fun e w' => e = .returned (.bool false) ∧ w' = w := by
  have hq : (v / 1099511627776 == 0) = false := by rw [beq_eq_false_iff_ne]; omega
  go_enter Try.func15, Try.ntmps15
  go_wp2
  go_ret
  exact ⟨rfl, rfl⟩
theorem specFixedNot_5 (v : Int) (w : World) (h0 : 0 ≤ v) (hm : v ≤ 9223372036854775807) (h1 : 1099511627776 ≤ v) :
    Calls Try.prog 5 #[.int .i64 v, .int .i64 5] w fun e w' => ∃ r, e = .returned (.tuple #[r, .int .i64 1]) ∧ w'.ownsRow w.heap.size 5 1 r 0 (([] : List Int).map (Value.int .u8)) ∧ Below w.heap.size w w' := by
  go_enter Try.func5, Try.ntmps5
  go_wp2_with (go_at_call 13; refine (power_5 _).mono ?_; rintro e w' ⟨rfl, rfl⟩)
  go_ret2
  exact ⟨_, rfl, World.ownsRow_lit _ #[] 0 (Nat.le_refl _) (by decide) rfl, (Below.refl _ _).alloc (Nat.le_refl _) _⟩
theorem implFixedNot_5 (v : Int) (w : World) (h0 : 0 ≤ v) (hm : v ≤ 9223372036854775807) (h1 : 1099511627776 ≤ v) :
    Calls Try.prog 6 #[.int .i64 v, .int .i64 5] w fun e w' => ∃ r, e = .returned (.tuple #[r, .int .i64 1]) ∧ w'.ownsRow w.heap.size 5 1 r 0 (([] : List Int).map (Value.int .u8)) ∧ Below w.heap.size w w' := by
  go_enter Try.func6, Try.ntmps6
  go_wp2_with (go_at_call 15; refine (fitsNot_5 v _ h0 hm h1).mono ?_; rintro e w' ⟨rfl, rfl⟩)
  go_ret2
  exact ⟨_, rfl, World.ownsRow_nil _ _ _ _, Below.refl _ _⟩

theorem fits_6 (v : Int) (w : World) (h0 : 0 ≤ v) (hm : v ≤ 9223372036854775807) (h1 : v < 281474976710656) : Calls Try.prog 15 #[.int .u64 v, .int .i64 6] w fun e w' => e = .returned (.bool true) ∧ w' = w := by
  have hq : (v / 281474976710656 == 0) = true := by rw [beq_iff_eq]; omega
  go_enter Try.func15, Try.ntmps15
  go_wp2
  go_ret
  exact ⟨rfl, rfl⟩
set_option maxHeartbeats 400000 in
theorem specFixed_6 (v : Int) (w : World) (h0 : 0 ≤ v) (hm : v ≤ 9223372036854775807) (h1 : v < 281474976710656) :
    Calls Try.prog 5 #[.int .i64 v, .int .i64 6] w fun e w' => ∃ r, e = .returned (.tuple #[r, .int .i64 0]) ∧ w'.ownsRow w.heap.size 5 1 r 6 ((be v 6).map (Value.int .u8)) ∧ Below w.heap.size w w' := by
  have hd : ∀ w : World, Calls Try.prog 14 #[.int .i64 v, .int .i64 6] w fun e w' => ∃ r, e = .returned r ∧ w'.ownsRow w.heap.size 5 1 r 6 ((be v 6).map (Value.int .u8)) ∧ Below w.heap.size w w' :=
    fun w => digits 6 v w h0 hm (by decide)
  go_enter Try.func5, Try.ntmps5
  go_wp2_with (first
    | (go_at_call 13; refine (power_6 _).mono ?_; rintro e w' ⟨rfl, rfl⟩)
    | (go_at_call 14; refine (hd _).mono ?_; rintro e w1 ⟨r, rfl, hown, hb⟩))
  go_ret2
  exact ⟨r, rfl, hown, hb⟩
set_option maxHeartbeats 400000 in
theorem implFixed_6 (v : Int) (w : World) (h0 : 0 ≤ v) (hm : v ≤ 9223372036854775807) (h1 : v < 281474976710656) :
    Calls Try.prog 6 #[.int .i64 v, .int .i64 6] w fun e w' => ∃ r, e = .returned (.tuple #[r, .int .i64 0]) ∧ w'.ownsRow w.heap.size 5 1 r 6 ((be v 6).map (Value.int .u8)) ∧ Below w.heap.size w w' := by
  have hd : ∀ w : World, Calls Try.prog 16 #[.int .u64 v, .int .i64 6] w fun e w' => ∃ r, e = .returned r ∧ w'.ownsRow w.heap.size 5 1 r 6 ((be v 6).map (Value.int .u8)) ∧ Below w.heap.size w w' :=
    fun w => high v 6 w h0 hm (by decide)
  go_enter Try.func6, Try.ntmps6
  go_wp2_with (first
    | (go_at_call 15; refine (fits_6 v _ h0 hm h1).mono ?_; rintro e w' ⟨rfl, rfl⟩)
    | (go_at_call 16; refine (hd _).mono ?_; rintro e w1 ⟨r, rfl, hown, hb⟩))
  go_ret2
  exact ⟨r, rfl, hown, hb⟩
theorem fitsNot_6 (v : Int) (w : World) (h0 : 0 ≤ v) (hm : v ≤ 9223372036854775807) (h1 : 281474976710656 ≤ v) : Calls Try.prog 15 #[.int .u64 v, .int .i64 6] w fun e w' => e = .returned (.bool false) ∧ w' = w := by
  have hq : (v / 281474976710656 == 0) = false := by rw [beq_eq_false_iff_ne]; omega
  go_enter Try.func15, Try.ntmps15
  go_wp2
  go_ret
  exact ⟨rfl, rfl⟩
theorem specFixedNot_6 (v : Int) (w : World) (h0 : 0 ≤ v) (hm : v ≤ 9223372036854775807) (h1 : 281474976710656 ≤ v) :
    Calls Try.prog 5 #[.int .i64 v, .int .i64 6] w fun e w' => ∃ r, e = .returned (.tuple #[r, .int .i64 1]) ∧ w'.ownsRow w.heap.size 5 1 r 0 (([] : List Int).map (Value.int .u8)) ∧ Below w.heap.size w w' := by
  go_enter Try.func5, Try.ntmps5
  go_wp2_with (go_at_call 13; refine (power_6 _).mono ?_; rintro e w' ⟨rfl, rfl⟩)
  go_ret2
  exact ⟨_, rfl, World.ownsRow_lit _ #[] 0 (Nat.le_refl _) (by decide) rfl, (Below.refl _ _).alloc (Nat.le_refl _) _⟩
theorem implFixedNot_6 (v : Int) (w : World) (h0 : 0 ≤ v) (hm : v ≤ 9223372036854775807) (h1 : 281474976710656 ≤ v) :
    Calls Try.prog 6 #[.int .i64 v, .int .i64 6] w fun e w' => ∃ r, e = .returned (.tuple #[r, .int .i64 1]) ∧ w'.ownsRow w.heap.size 5 1 r 0 (([] : List Int).map (Value.int .u8)) ∧ Below w.heap.size w w' := by
  go_enter Try.func6, Try.ntmps6
  go_wp2_with (go_at_call 15; refine (fitsNot_6 v _ h0 hm h1).mono ?_; rintro e w' ⟨rfl, rfl⟩)
  go_ret2
  exact ⟨_, rfl, World.ownsRow_nil _ _ _ _, Below.refl _ _⟩

theorem fits_7 (v : Int) (w : World) (h0 : 0 ≤ v) (hm : v ≤ 9223372036854775807) (h1 : v < 72057594037927936) : Calls Try.prog 15 #[.int .u64 v, .int .i64 7] w fun e w' => e = .returned (.bool true) ∧ w' = w := by
  have hq : (v / 72057594037927936 == 0) = true := by rw [beq_iff_eq]; omega
  go_enter Try.func15, Try.ntmps15
  go_wp2
  go_ret
  exact ⟨rfl, rfl⟩
set_option maxHeartbeats 400000 in
theorem specFixed_7 (v : Int) (w : World) (h0 : 0 ≤ v) (hm : v ≤ 9223372036854775807) (h1 : v < 72057594037927936) :
    Calls Try.prog 5 #[.int .i64 v, .int .i64 7] w fun e w' => ∃ r, e = .returned (.tuple #[r, .int .i64 0]) ∧ w'.ownsRow w.heap.size 5 1 r 7 ((be v 7).map (Value.int .u8)) ∧ Below w.heap.size w w' := by
  have hd : ∀ w : World, Calls Try.prog 14 #[.int .i64 v, .int .i64 7] w fun e w' => ∃ r, e = .returned r ∧ w'.ownsRow w.heap.size 5 1 r 7 ((be v 7).map (Value.int .u8)) ∧ Below w.heap.size w w' :=
    fun w => digits 7 v w h0 hm (by decide)
  go_enter Try.func5, Try.ntmps5
  go_wp2_with (first
    | (go_at_call 13; refine (power_7 _).mono ?_; rintro e w' ⟨rfl, rfl⟩)
    | (go_at_call 14; refine (hd _).mono ?_; rintro e w1 ⟨r, rfl, hown, hb⟩))
  go_ret2
  exact ⟨r, rfl, hown, hb⟩
set_option maxHeartbeats 400000 in
theorem implFixed_7 (v : Int) (w : World) (h0 : 0 ≤ v) (hm : v ≤ 9223372036854775807) (h1 : v < 72057594037927936) :
    Calls Try.prog 6 #[.int .i64 v, .int .i64 7] w fun e w' => ∃ r, e = .returned (.tuple #[r, .int .i64 0]) ∧ w'.ownsRow w.heap.size 5 1 r 7 ((be v 7).map (Value.int .u8)) ∧ Below w.heap.size w w' := by
  have hd : ∀ w : World, Calls Try.prog 16 #[.int .u64 v, .int .i64 7] w fun e w' => ∃ r, e = .returned r ∧ w'.ownsRow w.heap.size 5 1 r 7 ((be v 7).map (Value.int .u8)) ∧ Below w.heap.size w w' :=
    fun w => high v 7 w h0 hm (by decide)
  go_enter Try.func6, Try.ntmps6
  go_wp2_with (first
    | (go_at_call 15; refine (fits_7 v _ h0 hm h1).mono ?_; rintro e w' ⟨rfl, rfl⟩)
    | (go_at_call 16; refine (hd _).mono ?_; rintro e w1 ⟨r, rfl, hown, hb⟩))
  go_ret2
  exact ⟨r, rfl, hown, hb⟩
theorem fitsNot_7 (v : Int) (w : World) (h0 : 0 ≤ v) (hm : v ≤ 9223372036854775807) (h1 : 72057594037927936 ≤ v) : Calls Try.prog 15 #[.int .u64 v, .int .i64 7] w fun e w' => e = .returned (.bool false) ∧ w' = w := by
  have hq : (v / 72057594037927936 == 0) = false := by rw [beq_eq_false_iff_ne]; omega
  go_enter Try.func15, Try.ntmps15
  go_wp2
  go_ret
  exact ⟨rfl, rfl⟩
theorem specFixedNot_7 (v : Int) (w : World) (h0 : 0 ≤ v) (hm : v ≤ 9223372036854775807) (h1 : 72057594037927936 ≤ v) :
    Calls Try.prog 5 #[.int .i64 v, .int .i64 7] w fun e w' => ∃ r, e = .returned (.tuple #[r, .int .i64 1]) ∧ w'.ownsRow w.heap.size 5 1 r 0 (([] : List Int).map (Value.int .u8)) ∧ Below w.heap.size w w' := by
  go_enter Try.func5, Try.ntmps5
  go_wp2_with (go_at_call 13; refine (power_7 _).mono ?_; rintro e w' ⟨rfl, rfl⟩)
  go_ret2
  exact ⟨_, rfl, World.ownsRow_lit _ #[] 0 (Nat.le_refl _) (by decide) rfl, (Below.refl _ _).alloc (Nat.le_refl _) _⟩
theorem implFixedNot_7 (v : Int) (w : World) (h0 : 0 ≤ v) (hm : v ≤ 9223372036854775807) (h1 : 72057594037927936 ≤ v) :
    Calls Try.prog 6 #[.int .i64 v, .int .i64 7] w fun e w' => ∃ r, e = .returned (.tuple #[r, .int .i64 1]) ∧ w'.ownsRow w.heap.size 5 1 r 0 (([] : List Int).map (Value.int .u8)) ∧ Below w.heap.size w w' := by
  go_enter Try.func6, Try.ntmps6
  go_wp2_with (go_at_call 15; refine (fitsNot_7 v _ h0 hm h1).mono ?_; rintro e w' ⟨rfl, rfl⟩)
  go_ret2
  exact ⟨_, rfl, World.ownsRow_nil _ _ _ _, Below.refl _ _⟩

theorem fits_8 (v : Int) (w : World) (h0 : 0 ≤ v) (hm : v ≤ 9223372036854775807) : Calls Try.prog 15 #[.int .u64 v, .int .i64 8] w fun e w' => e = .returned (.bool true) ∧ w' = w := by
  go_enter Try.func15, Try.ntmps15
  go_wp2
  go_ret
  exact ⟨rfl, rfl⟩
set_option maxHeartbeats 400000 in
theorem specFixed_8 (v : Int) (w : World) (h0 : 0 ≤ v) (hm : v ≤ 9223372036854775807) :
    Calls Try.prog 5 #[.int .i64 v, .int .i64 8] w fun e w' => ∃ r, e = .returned (.tuple #[r, .int .i64 0]) ∧ w'.ownsRow w.heap.size 5 1 r 8 ((be v 8).map (Value.int .u8)) ∧ Below w.heap.size w w' := by
  have hd : ∀ w : World, Calls Try.prog 14 #[.int .i64 v, .int .i64 8] w fun e w' => ∃ r, e = .returned r ∧ w'.ownsRow w.heap.size 5 1 r 8 ((be v 8).map (Value.int .u8)) ∧ Below w.heap.size w w' :=
    fun w => digits 8 v w h0 hm (by decide)
  go_enter Try.func5, Try.ntmps5
  go_wp2_with (first
    
    | (go_at_call 14; refine (hd _).mono ?_; rintro e w1 ⟨r, rfl, hown, hb⟩))
  go_ret2
  exact ⟨r, rfl, hown, hb⟩
set_option maxHeartbeats 400000 in
theorem implFixed_8 (v : Int) (w : World) (h0 : 0 ≤ v) (hm : v ≤ 9223372036854775807) :
    Calls Try.prog 6 #[.int .i64 v, .int .i64 8] w fun e w' => ∃ r, e = .returned (.tuple #[r, .int .i64 0]) ∧ w'.ownsRow w.heap.size 5 1 r 8 ((be v 8).map (Value.int .u8)) ∧ Below w.heap.size w w' := by
  have hd : ∀ w : World, Calls Try.prog 16 #[.int .u64 v, .int .i64 8] w fun e w' => ∃ r, e = .returned r ∧ w'.ownsRow w.heap.size 5 1 r 8 ((be v 8).map (Value.int .u8)) ∧ Below w.heap.size w w' :=
    fun w => high v 8 w h0 hm (by decide)
  go_enter Try.func6, Try.ntmps6
  go_wp2_with (first
    | (go_at_call 15; refine (fits_8 v _ h0 hm).mono ?_; rintro e w' ⟨rfl, rfl⟩)
    | (go_at_call 16; refine (hd _).mono ?_; rintro e w1 ⟨r, rfl, hown, hb⟩))
  go_ret2
  exact ⟨r, rfl, hown, hb⟩

theorem specFixedBad (v n : Int) (w : World) (h : n < 1 ∨ 8 < n ∨ v < 0) :
    Calls Try.prog 5 #[.int .i64 v, .int .i64 n] w fun e w' => ∃ r, e = .returned (.tuple #[r, .int .i64 1]) ∧ w'.ownsRow w.heap.size 5 1 r 0 (([] : List Int).map (Value.int .u8)) ∧ Below w.heap.size w w' := by
  by_cases a : n < 1
  · clear h
    go_enter Try.func5, Try.ntmps5
    go_wp2
    go_ret2
    exact ⟨_, rfl, World.ownsRow_lit _ #[] 0 (Nat.le_refl _) (by decide) rfl, (Below.refl _ _).alloc (Nat.le_refl _) _⟩
  · by_cases b : 8 < n
    · clear h
      go_enter Try.func5, Try.ntmps5
      go_wp2
      go_ret2
      exact ⟨_, rfl, World.ownsRow_lit _ #[] 0 (Nat.le_refl _) (by decide) rfl, (Below.refl _ _).alloc (Nat.le_refl _) _⟩
    · have c : v < 0 := by omega
      clear h
      go_enter Try.func5, Try.ntmps5
      go_wp2
      go_ret2
      exact ⟨_, rfl, World.ownsRow_lit _ #[] 0 (Nat.le_refl _) (by decide) rfl, (Below.refl _ _).alloc (Nat.le_refl _) _⟩

theorem implFixedBad (v n : Int) (w : World) (h : n < 1 ∨ 8 < n ∨ v < 0) :
    Calls Try.prog 6 #[.int .i64 v, .int .i64 n] w fun e w' => ∃ r, e = .returned (.tuple #[r, .int .i64 1]) ∧ w'.ownsRow w.heap.size 5 1 r 0 (([] : List Int).map (Value.int .u8)) ∧ Below w.heap.size w w' := by
  by_cases a : n < 1
  · clear h
    go_enter Try.func6, Try.ntmps6
    go_wp2
    go_ret2
    exact ⟨_, rfl, World.ownsRow_nil _ _ _ _, Below.refl _ _⟩
  · by_cases b : 8 < n
    · clear h
      go_enter Try.func6, Try.ntmps6
      go_wp2
      go_ret2
      exact ⟨_, rfl, World.ownsRow_nil _ _ _ _, Below.refl _ _⟩
    · have c : v < 0 := by omega
      clear h
      go_enter Try.func6, Try.ntmps6
      go_wp2
      go_ret2
      exact ⟨_, rfl, World.ownsRow_nil _ _ _ _, Below.refl _ _⟩

end Go.Proofs.Ytkjfpgdnhdnceah
