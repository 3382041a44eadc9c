import Derived.Test.YtmfbfophjnaapaaDoorShort
import Derived.Test.YtmfbfophjnaapaaDoorHigh
namespace Go.Proofs.YtmfbfophjnaapaaDoor
open Go.RowKit
set_option linter.unusedVariables false

theorem or_fin : ∀ x : Fin 64, bits .or .u8 (x.val : Int) 0 = (x.val : Int) ∧ bits .or .u8 (x.val : Int) 64 = (x.val : Int) + 64 ∧ bits .or .u8 (x.val : Int) 128 = (x.val : Int) + 128 ∧ bits .or .u8 (x.val : Int) 192 = (x.val : Int) + 192 := by decide +kernel
theorem or_add (x c : Int) (h0 : 0 ≤ x) (h1 : x < 64) (hc : c = 0 ∨ c = 64 ∨ c = 128 ∨ c = 192) : bits .or .u8 x c = x + c := by
  have := or_fin ⟨x.toNat, by omega⟩
  have e : ((x.toNat : Nat) : Int) = x := by omega
  simp only [e] at this
  obtain ⟨a, b, d, f⟩ := this
  rcases hc with rfl | rfl | rfl | rfl
  · rw [a]; simp
  · exact b
  · exact d
  · exact f

/-- The shortest form of v, byte for byte. -/
def putv (v : Int) : List Int := (be v (vsize v).toNat).set 0 ((be v (vsize v).toNat).getD 0 0 + 64 * sform v)

/-- What the last store does. -/
theorem put_store {w w1 : World} {v c x : Int} {n g cap : Nat} (hn : 0 < n) (hx : x = (be v n).getD 0 0) (hown : w1.ownsRow w.heap.size 5 1 (.slice (some ⟨g, 0, none⟩) n cap) n ((be v n).map (Value.int .u8))) (hb : Below w.heap.size w w1)
    (hg : w.heap.size ≤ g) (y : Int) (hy : y = x + c) :
    (w1.setCell ⟨g, 0, none⟩ (.int .u8 y)).ownsRow w.heap.size 5 1 (.slice (some ⟨g, 0, none⟩) n cap) n (((be v n).set 0 ((be v n).getD 0 0 + c)).map (Value.int .u8)) ∧ Below w.heap.size w (w1.setCell ⟨g, 0, none⟩ (.int .u8 y)) := by
  subst hy
  have := (hown.stored 0 (.int .u8 (x + c))).1
  rw [← List.map_set] at this
  rw [← hx]
  exact ⟨this, hb.setCell hg _⟩

theorem head_1 (v : Int) (h0 : 0 ≤ v) (h1 : v ≤ 63) : 0 ≤ (be v 1).getD 0 0 ∧ (be v 1).getD 0 0 < 64 := by
  rw [be_at v 1 0 (by decide)]
  omega
theorem putv_1 (v : Int) (h0 : 0 ≤ v) (h1 : v ≤ 63) : vsize v = 1 ∧ sform v = 0 ∧ sok v = true := by
  refine ⟨?_, ?_, ?_⟩
  · unfold vsize; rw [if_neg (by omega), if_pos (by omega)]
  · unfold sform vform; rw [if_pos (by omega), if_pos (by omega)]
  · unfold sok; simp; omega
set_option maxHeartbeats 400000 in
theorem implPutVar_1 (v : Int) (w : World) (ht : Tab w) (h0 : 0 ≤ v) (h1 : v ≤ 63) :
    Calls Tryd.prog 34 #[.int .i64 v] w fun e w' => ∃ r, e = .returned (.tuple #[r, .int .i64 0]) ∧ w'.ownsRow w.heap.size 5 1 r 1 (((be v 1).set 0 ((be v 1).getD 0 0 + 0)).map (Value.int .u8)) ∧ Below w.heap.size w w' := by
  have hp := putv_1 v h0 h1
  have c : Calls Tryd.prog 39 #[.int .i64 v] w fun e w' => e = .returned (.tuple #[.int .i64 0, .bool true]) ∧ w' = w := by
    have := short_any v (by omega) w ht
    rwa [hp.2.1, hp.2.2] at this
  have d := length_0 w ht.c0
  have hh : ∀ w : World, Calls Tryd.prog 40 #[.int .u64 v, .int .i64 1] w fun e w' => ∃ r, e = .returned r ∧ w'.ownsRow w.heap.size 5 1 r 1 ((be v 1).map (Value.int .u8)) ∧ Below w.heap.size w w' :=
    fun w => high v 1 w (by omega) (by omega) (by decide)
  have hhd := head_1 v h0 h1
  clear ht hp
  go_enter Tryd.func34, Tryd.ntmps34
  go_wp2_with (first
    | (go_at_call 39; refine c.mono ?_; rintro e w' ⟨rfl, rfl⟩)
    | (go_at_call 41; refine d.mono ?_; rintro e w' ⟨rfl, rfl⟩)
    | (go_at_call 40; refine (hh _).mono ?_; rintro e w1 ⟨r, rfl, hown, hb⟩; obtain ⟨g, cap, rfl, hg, hgl⟩ := owns_shape hown (by decide); have c0 := owns_cell hown (be_length _ _) (by decide : 0 < 1); have f0 := hown.frozenAt 0; obtain ⟨x, hx⟩ : ∃ x, x = (be v 1).getD 0 0 := ⟨_, rfl⟩; rw [← hx] at c0 hhd; have HX : Hid (x = (be v 1).getD 0 0) := hx; clear hx))
  go_ret2
  have R := put_store (c := 0) (by decide) HX.out hown hb hg _ (or_add x 0 hhd.1 hhd.2 (by decide))
  exact ⟨_, rfl, R.1, R.2⟩

theorem head_2 (v : Int) (h0 : 64 ≤ v) (h1 : v ≤ 16383) : 0 ≤ (be v 2).getD 0 0 ∧ (be v 2).getD 0 0 < 64 := by
  rw [be_at v 2 0 (by decide)]
  omega
theorem putv_2 (v : Int) (h0 : 64 ≤ v) (h1 : v ≤ 16383) : vsize v = 2 ∧ sform v = 1 ∧ sok v = true := by
  refine ⟨?_, ?_, ?_⟩
  · unfold vsize; rw [if_neg (by omega), if_neg (by omega), if_pos (by omega)]
  · unfold sform vform; rw [if_pos (by omega), if_neg (by omega), if_pos (by omega)]
  · unfold sok; simp; omega
set_option maxHeartbeats 400000 in
theorem implPutVar_2 (v : Int) (w : World) (ht : Tab w) (h0 : 64 ≤ v) (h1 : v ≤ 16383) :
    Calls Tryd.prog 34 #[.int .i64 v] w fun e w' => ∃ r, e = .returned (.tuple #[r, .int .i64 0]) ∧ w'.ownsRow w.heap.size 5 1 r 2 (((be v 2).set 0 ((be v 2).getD 0 0 + 64)).map (Value.int .u8)) ∧ Below w.heap.size w w' := by
  have hp := putv_2 v h0 h1
  have c : Calls Tryd.prog 39 #[.int .i64 v] w fun e w' => e = .returned (.tuple #[.int .i64 1, .bool true]) ∧ w' = w := by
    have := short_any v (by omega) w ht
    rwa [hp.2.1, hp.2.2] at this
  have d := length_1 w ht.c1
  have hh : ∀ w : World, Calls Tryd.prog 40 #[.int .u64 v, .int .i64 2] w fun e w' => ∃ r, e = .returned r ∧ w'.ownsRow w.heap.size 5 1 r 2 ((be v 2).map (Value.int .u8)) ∧ Below w.heap.size w w' :=
    fun w => high v 2 w (by omega) (by omega) (by decide)
  have hhd := head_2 v h0 h1
  clear ht hp
  go_enter Tryd.func34, Tryd.ntmps34
  go_wp2_with (first
    | (go_at_call 39; refine c.mono ?_; rintro e w' ⟨rfl, rfl⟩)
    | (go_at_call 41; refine d.mono ?_; rintro e w' ⟨rfl, rfl⟩)
    | (go_at_call 40; refine (hh _).mono ?_; rintro e w1 ⟨r, rfl, hown, hb⟩; obtain ⟨g, cap, rfl, hg, hgl⟩ := owns_shape hown (by decide); have c0 := owns_cell hown (be_length _ _) (by decide : 0 < 2); have f0 := hown.frozenAt 0; obtain ⟨x, hx⟩ : ∃ x, x = (be v 2).getD 0 0 := ⟨_, rfl⟩; rw [← hx] at c0 hhd; have HX : Hid (x = (be v 2).getD 0 0) := hx; clear hx))
  go_ret2
  have R := put_store (c := 64) (by decide) HX.out hown hb hg _ (or_add x 64 hhd.1 hhd.2 (by decide))
  exact ⟨_, rfl, R.1, R.2⟩

theorem head_4 (v : Int) (h0 : 16384 ≤ v) (h1 : v ≤ 1073741823) : 0 ≤ (be v 4).getD 0 0 ∧ (be v 4).getD 0 0 < 64 := by
  rw [be_at v 4 0 (by decide)]
  omega
theorem putv_4 (v : Int) (h0 : 16384 ≤ v) (h1 : v ≤ 1073741823) : vsize v = 4 ∧ sform v = 2 ∧ sok v = true := by
  refine ⟨?_, ?_, ?_⟩
  · unfold vsize; rw [if_neg (by omega), if_neg (by omega), if_neg (by omega), if_pos (by omega)]
  · unfold sform vform; rw [if_pos (by omega), if_neg (by omega), if_neg (by omega), if_pos (by omega)]
  · unfold sok; simp; omega
set_option maxHeartbeats 400000 in
theorem implPutVar_4 (v : Int) (w : World) (ht : Tab w) (h0 : 16384 ≤ v) (h1 : v ≤ 1073741823) :
    Calls Tryd.prog 34 #[.int .i64 v] w fun e w' => ∃ r, e = .returned (.tuple #[r, .int .i64 0]) ∧ w'.ownsRow w.heap.size 5 1 r 4 (((be v 4).set 0 ((be v 4).getD 0 0 + 128)).map (Value.int .u8)) ∧ Below w.heap.size w w' := by
  have hp := putv_4 v h0 h1
  have c : Calls Tryd.prog 39 #[.int .i64 v] w fun e w' => e = .returned (.tuple #[.int .i64 2, .bool true]) ∧ w' = w := by
    have := short_any v (by omega) w ht
    rwa [hp.2.1, hp.2.2] at this
  have d := length_2 w ht.c2
  have hh : ∀ w : World, Calls Tryd.prog 40 #[.int .u64 v, .int .i64 4] w fun e w' => ∃ r, e = .returned r ∧ w'.ownsRow w.heap.size 5 1 r 4 ((be v 4).map (Value.int .u8)) ∧ Below w.heap.size w w' :=
    fun w => high v 4 w (by omega) (by omega) (by decide)
  have hhd := head_4 v h0 h1
  clear ht hp
  go_enter Tryd.func34, Tryd.ntmps34
  go_wp2_with (first
    | (go_at_call 39; refine c.mono ?_; rintro e w' ⟨rfl, rfl⟩)
    | (go_at_call 41; refine d.mono ?_; rintro e w' ⟨rfl, rfl⟩)
    | (go_at_call 40; refine (hh _).mono ?_; rintro e w1 ⟨r, rfl, hown, hb⟩; obtain ⟨g, cap, rfl, hg, hgl⟩ := owns_shape hown (by decide); have c0 := owns_cell hown (be_length _ _) (by decide : 0 < 4); have f0 := hown.frozenAt 0; obtain ⟨x, hx⟩ : ∃ x, x = (be v 4).getD 0 0 := ⟨_, rfl⟩; rw [← hx] at c0 hhd; have HX : Hid (x = (be v 4).getD 0 0) := hx; clear hx))
  go_ret2
  have R := put_store (c := 128) (by decide) HX.out hown hb hg _ (or_add x 128 hhd.1 hhd.2 (by decide))
  exact ⟨_, rfl, R.1, R.2⟩

theorem head_8 (v : Int) (h0 : 1073741824 ≤ v) (h1 : v ≤ 4611686018427387903) : 0 ≤ (be v 8).getD 0 0 ∧ (be v 8).getD 0 0 < 64 := by
  rw [be_at v 8 0 (by decide)]
  omega
theorem putv_8 (v : Int) (h0 : 1073741824 ≤ v) (h1 : v ≤ 4611686018427387903) : vsize v = 8 ∧ sform v = 3 ∧ sok v = true := by
  refine ⟨?_, ?_, ?_⟩
  · unfold vsize; rw [if_neg (by omega), if_neg (by omega), if_neg (by omega), if_neg (by omega), if_pos (by omega)]
  · unfold sform vform; rw [if_pos (by omega), if_neg (by omega), if_neg (by omega), if_neg (by omega)]
  · unfold sok; simp; omega
set_option maxHeartbeats 400000 in
theorem implPutVar_8 (v : Int) (w : World) (ht : Tab w) (h0 : 1073741824 ≤ v) (h1 : v ≤ 4611686018427387903) :
    Calls Tryd.prog 34 #[.int .i64 v] w fun e w' => ∃ r, e = .returned (.tuple #[r, .int .i64 0]) ∧ w'.ownsRow w.heap.size 5 1 r 8 (((be v 8).set 0 ((be v 8).getD 0 0 + 192)).map (Value.int .u8)) ∧ Below w.heap.size w w' := by
  have hp := putv_8 v h0 h1
  have c : Calls Tryd.prog 39 #[.int .i64 v] w fun e w' => e = .returned (.tuple #[.int .i64 3, .bool true]) ∧ w' = w := by
    have := short_any v (by omega) w ht
    rwa [hp.2.1, hp.2.2] at this
  have d := length_3 w ht.c3
  have hh : ∀ w : World, Calls Tryd.prog 40 #[.int .u64 v, .int .i64 8] w fun e w' => ∃ r, e = .returned r ∧ w'.ownsRow w.heap.size 5 1 r 8 ((be v 8).map (Value.int .u8)) ∧ Below w.heap.size w w' :=
    fun w => high v 8 w (by omega) (by omega) (by decide)
  have hhd := head_8 v h0 h1
  clear ht hp
  go_enter Tryd.func34, Tryd.ntmps34
  go_wp2_with (first
    | (go_at_call 39; refine c.mono ?_; rintro e w' ⟨rfl, rfl⟩)
    | (go_at_call 41; refine d.mono ?_; rintro e w' ⟨rfl, rfl⟩)
    | (go_at_call 40; refine (hh _).mono ?_; rintro e w1 ⟨r, rfl, hown, hb⟩; obtain ⟨g, cap, rfl, hg, hgl⟩ := owns_shape hown (by decide); have c0 := owns_cell hown (be_length _ _) (by decide : 0 < 8); have f0 := hown.frozenAt 0; obtain ⟨x, hx⟩ : ∃ x, x = (be v 8).getD 0 0 := ⟨_, rfl⟩; rw [← hx] at c0 hhd; have HX : Hid (x = (be v 8).getD 0 0) := hx; clear hx))
  go_ret2
  have R := put_store (c := 192) (by decide) HX.out hown hb hg _ (or_add x 192 hhd.1 hhd.2 (by decide))
  exact ⟨_, rfl, R.1, R.2⟩

/-- What PutVar of the program answers to a number that has a form. -/
theorem implPutVar (v : Int) (w : World) (ht : Tab w) (h0 : 0 ≤ v) (h1 : v ≤ 4611686018427387903) :
    Calls Tryd.prog 34 #[.int .i64 v] w fun e w' => ∃ r, e = .returned (.tuple #[r, .int .i64 0]) ∧ w'.ownsRow w.heap.size 5 1 r (vsize v).toNat ((putv v).map (Value.int .u8)) ∧ Below w.heap.size w w' := by
  unfold putv
  by_cases a : v ≤ 63
  · have := putv_1 v h0 a
    rw [this.1, this.2.1]
    exact implPutVar_1 v w ht h0 a
  · by_cases b : v ≤ 16383
    · have := putv_2 v (by omega) b
      rw [this.1, this.2.1]
      exact implPutVar_2 v w ht (by omega) b
    · by_cases c : v ≤ 1073741823
      · have := putv_4 v (by omega) c
        rw [this.1, this.2.1]
        exact implPutVar_4 v w ht (by omega) c
      · have := putv_8 v (by omega) h1
        rw [this.1, this.2.1]
        exact implPutVar_8 v w ht (by omega) h1

theorem implPutVar_no (v : Int) (w : World) (ht : Tab w) (h : v < 0 ∨ 4611686018427387903 < v) :
    Calls Tryd.prog 34 #[.int .i64 v] w fun e w' => e = .returned (.tuple #[.slice none 0 0, .int .i64 1]) ∧ w' = w := by
  have c : Calls Tryd.prog 39 #[.int .i64 v] w fun e w' => e = .returned (.tuple #[.int .i64 0, .bool false]) ∧ w' = w := by
    by_cases h0 : v < 0
    · exact short_neg v h0 w
    · have := short_any v (by omega) w ht
      have e1 : sform v = 0 := by unfold sform; rw [if_neg (by omega)]
      have e2 : sok v = false := by unfold sok; simp; omega
      rwa [e1, e2] at this
  clear ht h
  go_enter Tryd.func34, Tryd.ntmps34
  go_wp2_with (go_at_call 39; refine c.mono ?_; rintro e w' ⟨rfl, rfl⟩)
  go_ret2
  exact ⟨rfl, rfl⟩
end Go.Proofs.YtmfbfophjnaapaaDoor
