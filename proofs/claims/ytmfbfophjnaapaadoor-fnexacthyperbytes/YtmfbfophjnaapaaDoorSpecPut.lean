import Derived.Test.YtmfbfophjnaapaaDoorPutVar
namespace Go.Proofs.YtmfbfophjnaapaaDoor
open Go.RowKit
set_option linter.unusedVariables false

set_option maxHeartbeats 400000 in
theorem specPutVar_1 (v : Int) (w : World) (h0 : 0 ≤ v) (h1 : v ≤ 63) :
    Calls Tryd.prog 29 #[.int .i64 v] w fun e w' => ∃ r, e = .returned (.tuple #[r, .int .i64 0]) ∧ w'.ownsRow w.heap.size 5 1 r 1 (((be v 1).set 0 ((be v 1).getD 0 0 + 0)).map (Value.int .u8)) ∧ Below w.heap.size w w' := by
  have c : Calls Tryd.prog 36 #[.int .i64 v] w fun e w' => e = .returned (.int .i64 1) ∧ w' = w := by
    have := specVarLen v w
    rwa [(putv_1 v h0 h1).1] at this
  have hh : ∀ w : World, Calls Tryd.prog 37 #[.int .i64 v, .int .i64 1] w fun e w' => ∃ r, e = .returned r ∧ w'.ownsRow w.heap.size 5 1 r 1 ((be v 1).map (Value.int .u8)) ∧ Below w.heap.size w w' :=
    fun w => digits 1 v w (by omega) (by omega) (by decide)
  have hhd := head_1 v h0 h1
  go_enter Tryd.func29, Tryd.ntmps29
  go_wp2_with (first
    | (go_at_call 36; refine c.mono ?_; rintro e w' ⟨rfl, rfl⟩)
    | (go_at_call 37; refine (hh _).mono ?_; rintro e w1 ⟨r, rfl, hown, hb⟩; obtain ⟨g, cap, rfl, hg, hgl⟩ := owns_shape hown (by decide); have c0 := owns_cell hown (be_length _ _) (by decide : 0 < 1); have f0 := hown.frozenAt 0; obtain ⟨x, hx⟩ : ∃ x, x = (be v 1).getD 0 0 := ⟨_, rfl⟩; rw [← hx] at c0 hhd; have HX : Hid (x = (be v 1).getD 0 0) := hx; clear hx))
  refine wp_loop_rounds 1 ?_
  rw [rounds_succ]
  go_wp2
  go_ret2
  have R := put_store (c := 0) (by decide) HX.out hown hb hg (x + 0) rfl
  exact ⟨_, rfl, by simpa using R.1, by simpa using R.2⟩

set_option maxHeartbeats 400000 in
theorem specPutVar_2 (v : Int) (w : World) (h0 : 64 ≤ v) (h1 : v ≤ 16383) :
    Calls Tryd.prog 29 #[.int .i64 v] w fun e w' => ∃ r, e = .returned (.tuple #[r, .int .i64 0]) ∧ w'.ownsRow w.heap.size 5 1 r 2 (((be v 2).set 0 ((be v 2).getD 0 0 + 64)).map (Value.int .u8)) ∧ Below w.heap.size w w' := by
  have c : Calls Tryd.prog 36 #[.int .i64 v] w fun e w' => e = .returned (.int .i64 2) ∧ w' = w := by
    have := specVarLen v w
    rwa [(putv_2 v h0 h1).1] at this
  have hh : ∀ w : World, Calls Tryd.prog 37 #[.int .i64 v, .int .i64 2] w fun e w' => ∃ r, e = .returned r ∧ w'.ownsRow w.heap.size 5 1 r 2 ((be v 2).map (Value.int .u8)) ∧ Below w.heap.size w w' :=
    fun w => digits 2 v w (by omega) (by omega) (by decide)
  have hhd := head_2 v h0 h1
  go_enter Tryd.func29, Tryd.ntmps29
  go_wp2_with (first
    | (go_at_call 36; refine c.mono ?_; rintro e w' ⟨rfl, rfl⟩)
    | (go_at_call 37; refine (hh _).mono ?_; rintro e w1 ⟨r, rfl, hown, hb⟩; obtain ⟨g, cap, rfl, hg, hgl⟩ := owns_shape hown (by decide); have c0 := owns_cell hown (be_length _ _) (by decide : 0 < 2); have f0 := hown.frozenAt 0; obtain ⟨x, hx⟩ : ∃ x, x = (be v 2).getD 0 0 := ⟨_, rfl⟩; rw [← hx] at c0 hhd; have HX : Hid (x = (be v 2).getD 0 0) := hx; clear hx))
  refine wp_loop_rounds 2 ?_
  rw [rounds_succ]
  go_wp2
  rw [rounds_succ]
  go_wp2
  go_ret2
  have R := put_store (c := 64) (by decide) HX.out hown hb hg (x + 64) rfl
  exact ⟨_, rfl, R.1, R.2⟩

set_option maxHeartbeats 400000 in
theorem specPutVar_4 (v : Int) (w : World) (h0 : 16384 ≤ v) (h1 : v ≤ 1073741823) :
    Calls Tryd.prog 29 #[.int .i64 v] w fun e w' => ∃ r, e = .returned (.tuple #[r, .int .i64 0]) ∧ w'.ownsRow w.heap.size 5 1 r 4 (((be v 4).set 0 ((be v 4).getD 0 0 + 128)).map (Value.int .u8)) ∧ Below w.heap.size w w' := by
  have c : Calls Tryd.prog 36 #[.int .i64 v] w fun e w' => e = .returned (.int .i64 4) ∧ w' = w := by
    have := specVarLen v w
    rwa [(putv_4 v h0 h1).1] at this
  have hh : ∀ w : World, Calls Tryd.prog 37 #[.int .i64 v, .int .i64 4] w fun e w' => ∃ r, e = .returned r ∧ w'.ownsRow w.heap.size 5 1 r 4 ((be v 4).map (Value.int .u8)) ∧ Below w.heap.size w w' :=
    fun w => digits 4 v w (by omega) (by omega) (by decide)
  have hhd := head_4 v h0 h1
  go_enter Tryd.func29, Tryd.ntmps29
  go_wp2_with (first
    | (go_at_call 36; refine c.mono ?_; rintro e w' ⟨rfl, rfl⟩)
    | (go_at_call 37; refine (hh _).mono ?_; rintro e w1 ⟨r, rfl, hown, hb⟩; obtain ⟨g, cap, rfl, hg, hgl⟩ := owns_shape hown (by decide); have c0 := owns_cell hown (be_length _ _) (by decide : 0 < 4); have f0 := hown.frozenAt 0; obtain ⟨x, hx⟩ : ∃ x, x = (be v 4).getD 0 0 := ⟨_, rfl⟩; rw [← hx] at c0 hhd; have HX : Hid (x = (be v 4).getD 0 0) := hx; clear hx))
  refine wp_loop_rounds 3 ?_
  rw [rounds_succ]
  go_wp2
  rw [rounds_succ]
  go_wp2
  rw [rounds_succ]
  go_wp2
  go_ret2
  have R := put_store (c := 128) (by decide) HX.out hown hb hg (x + 128) rfl
  exact ⟨_, rfl, R.1, R.2⟩

set_option maxHeartbeats 400000 in
theorem specPutVar_8 (v : Int) (w : World) (h0 : 1073741824 ≤ v) (h1 : v ≤ 4611686018427387903) :
    Calls Tryd.prog 29 #[.int .i64 v] w fun e w' => ∃ r, e = .returned (.tuple #[r, .int .i64 0]) ∧ w'.ownsRow w.heap.size 5 1 r 8 (((be v 8).set 0 ((be v 8).getD 0 0 + 192)).map (Value.int .u8)) ∧ Below w.heap.size w w' := by
  have c : Calls Tryd.prog 36 #[.int .i64 v] w fun e w' => e = .returned (.int .i64 8) ∧ w' = w := by
    have := specVarLen v w
    rwa [(putv_8 v h0 h1).1] at this
  have hh : ∀ w : World, Calls Tryd.prog 37 #[.int .i64 v, .int .i64 8] w fun e w' => ∃ r, e = .returned r ∧ w'.ownsRow w.heap.size 5 1 r 8 ((be v 8).map (Value.int .u8)) ∧ Below w.heap.size w w' :=
    fun w => digits 8 v w (by omega) (by omega) (by decide)
  have hhd := head_8 v h0 h1
  go_enter Tryd.func29, Tryd.ntmps29
  go_wp2_with (first
    | (go_at_call 36; refine c.mono ?_; rintro e w' ⟨rfl, rfl⟩)
    | (go_at_call 37; refine (hh _).mono ?_; rintro e w1 ⟨r, rfl, hown, hb⟩; obtain ⟨g, cap, rfl, hg, hgl⟩ := owns_shape hown (by decide); have c0 := owns_cell hown (be_length _ _) (by decide : 0 < 8); have f0 := hown.frozenAt 0; obtain ⟨x, hx⟩ : ∃ x, x = (be v 8).getD 0 0 := ⟨_, rfl⟩; rw [← hx] at c0 hhd; have HX : Hid (x = (be v 8).getD 0 0) := hx; clear hx))
  refine wp_loop_rounds 4 ?_
  rw [rounds_succ]
  go_wp2
  rw [rounds_succ]
  go_wp2
  rw [rounds_succ]
  go_wp2
  rw [rounds_succ]
  go_wp2
  go_ret2
  have R := put_store (c := 192) (by decide) HX.out hown hb hg (x + 192) rfl
  exact ⟨_, rfl, R.1, R.2⟩

theorem specPutVar (v : Int) (w : World) (h0 : 0 ≤ v) (h1 : v ≤ 4611686018427387903) :
    Calls Tryd.prog 29 #[.int .i64 v] w fun e w' => ∃ r, e = .returned (.tuple #[r, .int .i64 0]) ∧ w'.ownsRow w.heap.size 5 1 r (vsize v).toNat ((putv v).map (Value.int .u8)) ∧ Below w.heap.size w w' := by
  unfold putv
  by_cases a : v ≤ 63
  · have := putv_1 v h0 a
    rw [this.1, this.2.1]
    exact specPutVar_1 v w h0 a
  · by_cases b : v ≤ 16383
    · have := putv_2 v (by omega) b
      rw [this.1, this.2.1]
      exact specPutVar_2 v w (by omega) b
    · by_cases c : v ≤ 1073741823
      · have := putv_4 v (by omega) c
        rw [this.1, this.2.1]
        exact specPutVar_4 v w (by omega) c
      · have := putv_8 v (by omega) h1
        rw [this.1, this.2.1]
        exact specPutVar_8 v w (by omega) h1

theorem specPutVar_no (v : Int) (w : World) (h : v < 0 ∨ 4611686018427387903 < v) :
    Calls Tryd.prog 29 #[.int .i64 v] w fun e w' => ∃ r, e = .returned (.tuple #[r, .int .i64 1]) ∧ w'.ownsRow w.heap.size 5 1 r 0 (([] : List Int).map (Value.int .u8)) ∧ Below w.heap.size w w' := by
  have c : Calls Tryd.prog 36 #[.int .i64 v] w fun e w' => e = .returned (.int .i64 0) ∧ w' = w := by
    have := specVarLen v w
    have e : vsize v = 0 := by
      unfold vsize
      rcases h with h | h
      · rw [if_pos h]
      · rw [if_neg (by omega), if_neg (by omega), if_neg (by omega), if_neg (by omega), if_neg (by omega)]
    rwa [e] at this
  clear h
  go_enter Tryd.func29, Tryd.ntmps29
  go_wp2_with (go_at_call 36; refine c.mono ?_; rintro e w' ⟨rfl, rfl⟩)
  go_ret2
  refine ⟨_, rfl, ?_, (Below.refl _ _).alloc (Nat.le_refl _) _⟩
  exact World.ownsRow_lit _ #[] 0 (Nat.le_refl _) (by decide) rfl
end Go.Proofs.YtmfbfophjnaapaaDoor
