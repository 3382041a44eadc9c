import Derived.Test.YtkjfpgdnhdnceahDoorGetVarM
import Derived.Test.YtkjfpgdnhdnceahDoorPutVarsAll
namespace Go.Proofs.YtkjfpgdnhdnceahDoor
open Go.RowKit
set_option linter.unusedVariables false

theorem set_head (l : List Int) (y : Int) (h : 0 < l.length) : (l.set 0 y).getD 0 0 = y := by
  simp [List.getD, h]
theorem set_tail (l : List Int) (y : Int) (j : Nat) : (l.set 0 y).getD (j + 1) 0 = l.getD (j + 1) 0 := by
  simp [List.getD]

theorem putv_eq_1 (v : Int) (h0 : 0 ≤ v) (h1 : v ≤ 63) : putv v = (be v 1).set 0 ((be v 1).getD 0 0 + 0) := by
  have := putv_1 v h0 h1
  unfold putv
  rw [this.1, this.2.1]
  rfl
theorem put_len_1 (v : Int) (h0 : 0 ≤ v) (h1 : v ≤ 63) : (putv v).length = 1 := by rw [putv_eq_1 v h0 h1, List.length_set, be_length]
theorem put_1_0 (v : Int) (h0 : 0 ≤ v) (h1 : v ≤ 63) : (putv v).getD 0 0 = v / 1 % 256 + 0 := by
  rw [putv_eq_1 v h0 h1, set_head _ _ (by rw [be_length]; decide), be_at v 1 0 (by decide)]
  rfl
theorem head_form_1 (v : Int) (h0 : 0 ≤ v) (h1 : v ≤ 63) : (putv v).getD 0 0 / 64 = 0 ∧ 0 ≤ (putv v).getD 0 0 ∧ (putv v).getD 0 0 < 256 := by
  rw [put_1_0 v h0 h1]
  omega
theorem back_1 (v : Int) (h0 : 0 ≤ v) (h1 : v ≤ 63) : vals (putv v) % 64 = v := by
  rw [vals_1 _ (put_len_1 v h0 h1), put_1_0 v h0 h1]
  omega
theorem at_1_0 (x0 v : Int) (l0 : 0 ≤ x0) (u0 : x0 < 256) (hf : x0 / 64 = 0) (hv : v = x0 % 64) : v / 1 % 256 + 0 = x0 := by omega
theorem same_1 (ys : List Int) (v : Int) (hl : ys.length = 1) (hB : Bytes ys) (hf : ys.getD 0 0 / 64 = 0) (hv : v = vals ys % 64) (h0 : 0 ≤ v) (h1 : v ≤ 63) : ys = putv v := by
  have e := low_1 _ (hB.at 0).1 (hB.at 0).2 hf
  rw [vals_1 ys hl, e] at hv
  refine list_eq_of_getD hl (put_len_1 v h0 h1) (fun j hj => ?_)
  have hj' : j = 0 := by omega
  rcases hj' with rfl
  · rw [put_1_0 v h0 h1, at_1_0 _ v (hB.at 0).1 (hB.at 0).2 hf hv]

theorem putv_eq_2 (v : Int) (h0 : 64 ≤ v) (h1 : v ≤ 16383) : putv v = (be v 2).set 0 ((be v 2).getD 0 0 + 64) := by
  have := putv_2 v h0 h1
  unfold putv
  rw [this.1, this.2.1]
  rfl
theorem put_len_2 (v : Int) (h0 : 64 ≤ v) (h1 : v ≤ 16383) : (putv v).length = 2 := by rw [putv_eq_2 v h0 h1, List.length_set, be_length]
theorem put_2_0 (v : Int) (h0 : 64 ≤ v) (h1 : v ≤ 16383) : (putv v).getD 0 0 = v / 256 % 256 + 64 := by
  rw [putv_eq_2 v h0 h1, set_head _ _ (by rw [be_length]; decide), be_at v 2 0 (by decide)]
  rfl
theorem put_2_1 (v : Int) (h0 : 64 ≤ v) (h1 : v ≤ 16383) : (putv v).getD 1 0 = v / 1 % 256 := by
  rw [putv_eq_2 v h0 h1, set_tail, be_at v 2 1 (by decide)]
  rfl
theorem head_form_2 (v : Int) (h0 : 64 ≤ v) (h1 : v ≤ 16383) : (putv v).getD 0 0 / 64 = 1 ∧ 0 ≤ (putv v).getD 0 0 ∧ (putv v).getD 0 0 < 256 := by
  rw [put_2_0 v h0 h1]
  omega
theorem back_2 (v : Int) (h0 : 64 ≤ v) (h1 : v ≤ 16383) : vals (putv v) % 16384 = v := by
  rw [vals_2 _ (put_len_2 v h0 h1), put_2_0 v h0 h1, put_2_1 v h0 h1]
  omega
theorem at_2_0 (x0 x1 v : Int) (l0 : 0 ≤ x0) (u0 : x0 < 256) (l1 : 0 ≤ x1) (u1 : x1 < 256) (hf : x0 / 64 = 1) (hv : v = x0 % 64 * 256 + x1) : v / 256 % 256 + 64 = x0 := by omega
theorem at_2_1 (x0 x1 v : Int) (l0 : 0 ≤ x0) (u0 : x0 < 256) (l1 : 0 ≤ x1) (u1 : x1 < 256) (hf : x0 / 64 = 1) (hv : v = x0 % 64 * 256 + x1) : v / 1 % 256 = x1 := by omega
theorem same_2 (ys : List Int) (v : Int) (hl : ys.length = 2) (hB : Bytes ys) (hf : ys.getD 0 0 / 64 = 1) (hv : v = vals ys % 16384) (h0 : 64 ≤ v) (h1 : v ≤ 16383) : ys = putv v := by
  have e := low_2 _ _ (hB.at 0).1 (hB.at 0).2 (hB.at 1).1 (hB.at 1).2 hf
  rw [vals_2 ys hl, e] at hv
  refine list_eq_of_getD hl (put_len_2 v h0 h1) (fun j hj => ?_)
  have hj' : j = 0 ∨ j = 1 := by omega
  rcases hj' with rfl | rfl
  · rw [put_2_0 v h0 h1, at_2_0 _ _ v (hB.at 0).1 (hB.at 0).2 (hB.at 1).1 (hB.at 1).2 hf hv]
  · rw [put_2_1 v h0 h1, at_2_1 _ _ v (hB.at 0).1 (hB.at 0).2 (hB.at 1).1 (hB.at 1).2 hf hv]

theorem putv_eq_4 (v : Int) (h0 : 16384 ≤ v) (h1 : v ≤ 1073741823) : putv v = (be v 4).set 0 ((be v 4).getD 0 0 + 128) := by
  have := putv_4 v h0 h1
  unfold putv
  rw [this.1, this.2.1]
  rfl
theorem put_len_4 (v : Int) (h0 : 16384 ≤ v) (h1 : v ≤ 1073741823) : (putv v).length = 4 := by rw [putv_eq_4 v h0 h1, List.length_set, be_length]
theorem put_4_0 (v : Int) (h0 : 16384 ≤ v) (h1 : v ≤ 1073741823) : (putv v).getD 0 0 = v / 16777216 % 256 + 128 := by
  rw [putv_eq_4 v h0 h1, set_head _ _ (by rw [be_length]; decide), be_at v 4 0 (by decide)]
  rfl
theorem put_4_1 (v : Int) (h0 : 16384 ≤ v) (h1 : v ≤ 1073741823) : (putv v).getD 1 0 = v / 65536 % 256 := by
  rw [putv_eq_4 v h0 h1, set_tail, be_at v 4 1 (by decide)]
  rfl
theorem put_4_2 (v : Int) (h0 : 16384 ≤ v) (h1 : v ≤ 1073741823) : (putv v).getD 2 0 = v / 256 % 256 := by
  rw [putv_eq_4 v h0 h1, set_tail, be_at v 4 2 (by decide)]
  rfl
theorem put_4_3 (v : Int) (h0 : 16384 ≤ v) (h1 : v ≤ 1073741823) : (putv v).getD 3 0 = v / 1 % 256 := by
  rw [putv_eq_4 v h0 h1, set_tail, be_at v 4 3 (by decide)]
  rfl
theorem head_form_4 (v : Int) (h0 : 16384 ≤ v) (h1 : v ≤ 1073741823) : (putv v).getD 0 0 / 64 = 2 ∧ 0 ≤ (putv v).getD 0 0 ∧ (putv v).getD 0 0 < 256 := by
  rw [put_4_0 v h0 h1]
  omega
theorem back_4 (v : Int) (h0 : 16384 ≤ v) (h1 : v ≤ 1073741823) : vals (putv v) % 1073741824 = v := by
  rw [vals_4 _ (put_len_4 v h0 h1), put_4_0 v h0 h1, put_4_1 v h0 h1, put_4_2 v h0 h1, put_4_3 v h0 h1]
  omega
theorem at_4_0 (x0 x1 x2 x3 v : Int) (l0 : 0 ≤ x0) (u0 : x0 < 256) (l1 : 0 ≤ x1) (u1 : x1 < 256) (l2 : 0 ≤ x2) (u2 : x2 < 256) (l3 : 0 ≤ x3) (u3 : x3 < 256) (hf : x0 / 64 = 2) (hv : v = ((x0 % 64 * 256 + x1) * 256 + x2) * 256 + x3) : v / 16777216 % 256 + 128 = x0 := by omega
theorem at_4_1 (x0 x1 x2 x3 v : Int) (l0 : 0 ≤ x0) (u0 : x0 < 256) (l1 : 0 ≤ x1) (u1 : x1 < 256) (l2 : 0 ≤ x2) (u2 : x2 < 256) (l3 : 0 ≤ x3) (u3 : x3 < 256) (hf : x0 / 64 = 2) (hv : v = ((x0 % 64 * 256 + x1) * 256 + x2) * 256 + x3) : v / 65536 % 256 = x1 := by omega
theorem at_4_2 (x0 x1 x2 x3 v : Int) (l0 : 0 ≤ x0) (u0 : x0 < 256) (l1 : 0 ≤ x1) (u1 : x1 < 256) (l2 : 0 ≤ x2) (u2 : x2 < 256) (l3 : 0 ≤ x3) (u3 : x3 < 256) (hf : x0 / 64 = 2) (hv : v = ((x0 % 64 * 256 + x1) * 256 + x2) * 256 + x3) : v / 256 % 256 = x2 := by omega
theorem at_4_3 (x0 x1 x2 x3 v : Int) (l0 : 0 ≤ x0) (u0 : x0 < 256) (l1 : 0 ≤ x1) (u1 : x1 < 256) (l2 : 0 ≤ x2) (u2 : x2 < 256) (l3 : 0 ≤ x3) (u3 : x3 < 256) (hf : x0 / 64 = 2) (hv : v = ((x0 % 64 * 256 + x1) * 256 + x2) * 256 + x3) : v / 1 % 256 = x3 := by omega
theorem same_4 (ys : List Int) (v : Int) (hl : ys.length = 4) (hB : Bytes ys) (hf : ys.getD 0 0 / 64 = 2) (hv : v = vals ys % 1073741824) (h0 : 16384 ≤ v) (h1 : v ≤ 1073741823) : ys = putv v := by
  have e := low_4 _ _ _ _ (hB.at 0).1 (hB.at 0).2 (hB.at 1).1 (hB.at 1).2 (hB.at 2).1 (hB.at 2).2 (hB.at 3).1 (hB.at 3).2 hf
  rw [vals_4 ys hl, e] at hv
  refine list_eq_of_getD hl (put_len_4 v h0 h1) (fun j hj => ?_)
  have hj' : j = 0 ∨ j = 1 ∨ j = 2 ∨ j = 3 := by omega
  rcases hj' with rfl | rfl | rfl | rfl
  · rw [put_4_0 v h0 h1, at_4_0 _ _ _ _ v (hB.at 0).1 (hB.at 0).2 (hB.at 1).1 (hB.at 1).2 (hB.at 2).1 (hB.at 2).2 (hB.at 3).1 (hB.at 3).2 hf hv]
  · rw [put_4_1 v h0 h1, at_4_1 _ _ _ _ v (hB.at 0).1 (hB.at 0).2 (hB.at 1).1 (hB.at 1).2 (hB.at 2).1 (hB.at 2).2 (hB.at 3).1 (hB.at 3).2 hf hv]
  · rw [put_4_2 v h0 h1, at_4_2 _ _ _ _ v (hB.at 0).1 (hB.at 0).2 (hB.at 1).1 (hB.at 1).2 (hB.at 2).1 (hB.at 2).2 (hB.at 3).1 (hB.at 3).2 hf hv]
  · rw [put_4_3 v h0 h1, at_4_3 _ _ _ _ v (hB.at 0).1 (hB.at 0).2 (hB.at 1).1 (hB.at 1).2 (hB.at 2).1 (hB.at 2).2 (hB.at 3).1 (hB.at 3).2 hf hv]

theorem putv_eq_8 (v : Int) (h0 : 1073741824 ≤ v) (h1 : v ≤ 4611686018427387903) : putv v = (be v 8).set 0 ((be v 8).getD 0 0 + 192) := by
  have := putv_8 v h0 h1
  unfold putv
  rw [this.1, this.2.1]
  rfl
theorem put_len_8 (v : Int) (h0 : 1073741824 ≤ v) (h1 : v ≤ 4611686018427387903) : (putv v).length = 8 := by rw [putv_eq_8 v h0 h1, List.length_set, be_length]
theorem put_8_0 (v : Int) (h0 : 1073741824 ≤ v) (h1 : v ≤ 4611686018427387903) : (putv v).getD 0 0 = v / 72057594037927936 % 256 + 192 := by
  rw [putv_eq_8 v h0 h1, set_head _ _ (by rw [be_length]; decide), be_at v 8 0 (by decide)]
  rfl
theorem put_8_1 (v : Int) (h0 : 1073741824 ≤ v) (h1 : v ≤ 4611686018427387903) : (putv v).getD 1 0 = v / 281474976710656 % 256 := by
  rw [putv_eq_8 v h0 h1, set_tail, be_at v 8 1 (by decide)]
  rfl
theorem put_8_2 (v : Int) (h0 : 1073741824 ≤ v) (h1 : v ≤ 4611686018427387903) : (putv v).getD 2 0 = v / 1099511627776 % 256 := by
  rw [putv_eq_8 v h0 h1, set_tail, be_at v 8 2 (by decide)]
  rfl
theorem put_8_3 (v : Int) (h0 : 1073741824 ≤ v) (h1 : v ≤ 4611686018427387903) : (putv v).getD 3 0 = v / 4294967296 % 256 := by
  rw [putv_eq_8 v h0 h1, set_tail, be_at v 8 3 (by decide)]
  rfl
theorem put_8_4 (v : Int) (h0 : 1073741824 ≤ v) (h1 : v ≤ 4611686018427387903) : (putv v).getD 4 0 = v / 16777216 % 256 := by
  rw [putv_eq_8 v h0 h1, set_tail, be_at v 8 4 (by decide)]
  rfl
theorem put_8_5 (v : Int) (h0 : 1073741824 ≤ v) (h1 : v ≤ 4611686018427387903) : (putv v).getD 5 0 = v / 65536 % 256 := by
  rw [putv_eq_8 v h0 h1, set_tail, be_at v 8 5 (by decide)]
  rfl
theorem put_8_6 (v : Int) (h0 : 1073741824 ≤ v) (h1 : v ≤ 4611686018427387903) : (putv v).getD 6 0 = v / 256 % 256 := by
  rw [putv_eq_8 v h0 h1, set_tail, be_at v 8 6 (by decide)]
  rfl
theorem put_8_7 (v : Int) (h0 : 1073741824 ≤ v) (h1 : v ≤ 4611686018427387903) : (putv v).getD 7 0 = v / 1 % 256 := by
  rw [putv_eq_8 v h0 h1, set_tail, be_at v 8 7 (by decide)]
  rfl
theorem head_form_8 (v : Int) (h0 : 1073741824 ≤ v) (h1 : v ≤ 4611686018427387903) : (putv v).getD 0 0 / 64 = 3 ∧ 0 ≤ (putv v).getD 0 0 ∧ (putv v).getD 0 0 < 256 := by
  rw [put_8_0 v h0 h1]
  omega
theorem back_8 (v : Int) (h0 : 1073741824 ≤ v) (h1 : v ≤ 4611686018427387903) : vals (putv v) % 4611686018427387904 = v := by
  rw [vals_8 _ (put_len_8 v h0 h1), put_8_0 v h0 h1, put_8_1 v h0 h1, put_8_2 v h0 h1, put_8_3 v h0 h1, put_8_4 v h0 h1, put_8_5 v h0 h1, put_8_6 v h0 h1, put_8_7 v h0 h1]
  omega
theorem at_8_0 (x0 x1 x2 x3 x4 x5 x6 x7 v : Int) (l0 : 0 ≤ x0) (u0 : x0 < 256) (l1 : 0 ≤ x1) (u1 : x1 < 256) (l2 : 0 ≤ x2) (u2 : x2 < 256) (l3 : 0 ≤ x3) (u3 : x3 < 256) (l4 : 0 ≤ x4) (u4 : x4 < 256) (l5 : 0 ≤ x5) (u5 : x5 < 256) (l6 : 0 ≤ x6) (u6 : x6 < 256) (l7 : 0 ≤ x7) (u7 : x7 < 256) (hf : x0 / 64 = 3) (hv : v = ((((((x0 % 64 * 256 + x1) * 256 + x2) * 256 + x3) * 256 + x4) * 256 + x5) * 256 + x6) * 256 + x7) : v / 72057594037927936 % 256 + 192 = x0 := by omega
theorem at_8_1 (x0 x1 x2 x3 x4 x5 x6 x7 v : Int) (l0 : 0 ≤ x0) (u0 : x0 < 256) (l1 : 0 ≤ x1) (u1 : x1 < 256) (l2 : 0 ≤ x2) (u2 : x2 < 256) (l3 : 0 ≤ x3) (u3 : x3 < 256) (l4 : 0 ≤ x4) (u4 : x4 < 256) (l5 : 0 ≤ x5) (u5 : x5 < 256) (l6 : 0 ≤ x6) (u6 : x6 < 256) (l7 : 0 ≤ x7) (u7 : x7 < 256) (hf : x0 / 64 = 3) (hv : v = ((((((x0 % 64 * 256 + x1) * 256 + x2) * 256 + x3) * 256 + x4) * 256 + x5) * 256 + x6) * 256 + x7) : v / 281474976710656 % 256 = x1 := by omega
theorem at_8_2 (x0 x1 x2 x3 x4 x5 x6 x7 v : Int) (l0 : 0 ≤ x0) (u0 : x0 < 256) (l1 : 0 ≤ x1) (u1 : x1 < 256) (l2 : 0 ≤ x2) (u2 : x2 < 256) (l3 : 0 ≤ x3) (u3 : x3 < 256) (l4 : 0 ≤ x4) (u4 : x4 < 256) (l5 : 0 ≤ x5) (u5 : x5 < 256) (l6 : 0 ≤ x6) (u6 : x6 < 256) (l7 : 0 ≤ x7) (u7 : x7 < 256) (hf : x0 / 64 = 3) (hv : v = ((((((x0 % 64 * 256 + x1) * 256 + x2) * 256 + x3) * 256 + x4) * 256 + x5) * 256 + x6) * 256 + x7) : v / 1099511627776 % 256 = x2 := by omega
theorem at_8_3 (x0 x1 x2 x3 x4 x5 x6 x7 v : Int) (l0 : 0 ≤ x0) (u0 : x0 < 256) (l1 : 0 ≤ x1) (u1 : x1 < 256) (l2 : 0 ≤ x2) (u2 : x2 < 256) (l3 : 0 ≤ x3) (u3 : x3 < 256) (l4 : 0 ≤ x4) (u4 : x4 < 256) (l5 : 0 ≤ x5) (u5 : x5 < 256) (l6 : 0 ≤ x6) (u6 : x6 < 256) (l7 : 0 ≤ x7) (u7 : x7 < 256) (hf : x0 / 64 = 3) (hv : v = ((((((x0 % 64 * 256 + x1) * 256 + x2) * 256 + x3) * 256 + x4) * 256 + x5) * 256 + x6) * 256 + x7) : v / 4294967296 % 256 = x3 := by omega
theorem at_8_4 (x0 x1 x2 x3 x4 x5 x6 x7 v : Int) (l0 : 0 ≤ x0) (u0 : x0 < 256) (l1 : 0 ≤ x1) (u1 : x1 < 256) (l2 : 0 ≤ x2) (u2 : x2 < 256) (l3 : 0 ≤ x3) (u3 : x3 < 256) (l4 : 0 ≤ x4) (u4 : x4 < 256) (l5 : 0 ≤ x5) (u5 : x5 < 256) (l6 : 0 ≤ x6) (u6 : x6 < 256) (l7 : 0 ≤ x7) (u7 : x7 < 256) (hf : x0 / 64 = 3) (hv : v = ((((((x0 % 64 * 256 + x1) * 256 + x2) * 256 + x3) * 256 + x4) * 256 + x5) * 256 + x6) * 256 + x7) : v / 16777216 % 256 = x4 := by omega
theorem at_8_5 (x0 x1 x2 x3 x4 x5 x6 x7 v : Int) (l0 : 0 ≤ x0) (u0 : x0 < 256) (l1 : 0 ≤ x1) (u1 : x1 < 256) (l2 : 0 ≤ x2) (u2 : x2 < 256) (l3 : 0 ≤ x3) (u3 : x3 < 256) (l4 : 0 ≤ x4) (u4 : x4 < 256) (l5 : 0 ≤ x5) (u5 : x5 < 256) (l6 : 0 ≤ x6) (u6 : x6 < 256) (l7 : 0 ≤ x7) (u7 : x7 < 256) (hf : x0 / 64 = 3) (hv : v = ((((((x0 % 64 * 256 + x1) * 256 + x2) * 256 + x3) * 256 + x4) * 256 + x5) * 256 + x6) * 256 + x7) : v / 65536 % 256 = x5 := by omega
theorem at_8_6 (x0 x1 x2 x3 x4 x5 x6 x7 v : Int) (l0 : 0 ≤ x0) (u0 : x0 < 256) (l1 : 0 ≤ x1) (u1 : x1 < 256) (l2 : 0 ≤ x2) (u2 : x2 < 256) (l3 : 0 ≤ x3) (u3 : x3 < 256) (l4 : 0 ≤ x4) (u4 : x4 < 256) (l5 : 0 ≤ x5) (u5 : x5 < 256) (l6 : 0 ≤ x6) (u6 : x6 < 256) (l7 : 0 ≤ x7) (u7 : x7 < 256) (hf : x0 / 64 = 3) (hv : v = ((((((x0 % 64 * 256 + x1) * 256 + x2) * 256 + x3) * 256 + x4) * 256 + x5) * 256 + x6) * 256 + x7) : v / 256 % 256 = x6 := by omega
theorem at_8_7 (x0 x1 x2 x3 x4 x5 x6 x7 v : Int) (l0 : 0 ≤ x0) (u0 : x0 < 256) (l1 : 0 ≤ x1) (u1 : x1 < 256) (l2 : 0 ≤ x2) (u2 : x2 < 256) (l3 : 0 ≤ x3) (u3 : x3 < 256) (l4 : 0 ≤ x4) (u4 : x4 < 256) (l5 : 0 ≤ x5) (u5 : x5 < 256) (l6 : 0 ≤ x6) (u6 : x6 < 256) (l7 : 0 ≤ x7) (u7 : x7 < 256) (hf : x0 / 64 = 3) (hv : v = ((((((x0 % 64 * 256 + x1) * 256 + x2) * 256 + x3) * 256 + x4) * 256 + x5) * 256 + x6) * 256 + x7) : v / 1 % 256 = x7 := by omega
theorem same_8 (ys : List Int) (v : Int) (hl : ys.length = 8) (hB : Bytes ys) (hf : ys.getD 0 0 / 64 = 3) (hv : v = vals ys % 4611686018427387904) (h0 : 1073741824 ≤ v) (h1 : v ≤ 4611686018427387903) : ys = putv v := by
  have e := low_8 _ _ _ _ _ _ _ _ (hB.at 0).1 (hB.at 0).2 (hB.at 1).1 (hB.at 1).2 (hB.at 2).1 (hB.at 2).2 (hB.at 3).1 (hB.at 3).2 (hB.at 4).1 (hB.at 4).2 (hB.at 5).1 (hB.at 5).2 (hB.at 6).1 (hB.at 6).2 (hB.at 7).1 (hB.at 7).2 hf
  rw [vals_8 ys hl, e] at hv
  refine list_eq_of_getD hl (put_len_8 v h0 h1) (fun j hj => ?_)
  have hj' : j = 0 ∨ j = 1 ∨ j = 2 ∨ j = 3 ∨ j = 4 ∨ j = 5 ∨ j = 6 ∨ j = 7 := by omega
  rcases hj' with rfl | rfl | rfl | rfl | rfl | rfl | rfl | rfl
  · rw [put_8_0 v h0 h1, at_8_0 _ _ _ _ _ _ _ _ v (hB.at 0).1 (hB.at 0).2 (hB.at 1).1 (hB.at 1).2 (hB.at 2).1 (hB.at 2).2 (hB.at 3).1 (hB.at 3).2 (hB.at 4).1 (hB.at 4).2 (hB.at 5).1 (hB.at 5).2 (hB.at 6).1 (hB.at 6).2 (hB.at 7).1 (hB.at 7).2 hf hv]
  · rw [put_8_1 v h0 h1, at_8_1 _ _ _ _ _ _ _ _ v (hB.at 0).1 (hB.at 0).2 (hB.at 1).1 (hB.at 1).2 (hB.at 2).1 (hB.at 2).2 (hB.at 3).1 (hB.at 3).2 (hB.at 4).1 (hB.at 4).2 (hB.at 5).1 (hB.at 5).2 (hB.at 6).1 (hB.at 6).2 (hB.at 7).1 (hB.at 7).2 hf hv]
  · rw [put_8_2 v h0 h1, at_8_2 _ _ _ _ _ _ _ _ v (hB.at 0).1 (hB.at 0).2 (hB.at 1).1 (hB.at 1).2 (hB.at 2).1 (hB.at 2).2 (hB.at 3).1 (hB.at 3).2 (hB.at 4).1 (hB.at 4).2 (hB.at 5).1 (hB.at 5).2 (hB.at 6).1 (hB.at 6).2 (hB.at 7).1 (hB.at 7).2 hf hv]
  · rw [put_8_3 v h0 h1, at_8_3 _ _ _ _ _ _ _ _ v (hB.at 0).1 (hB.at 0).2 (hB.at 1).1 (hB.at 1).2 (hB.at 2).1 (hB.at 2).2 (hB.at 3).1 (hB.at 3).2 (hB.at 4).1 (hB.at 4).2 (hB.at 5).1 (hB.at 5).2 (hB.at 6).1 (hB.at 6).2 (hB.at 7).1 (hB.at 7).2 hf hv]
  · rw [put_8_4 v h0 h1, at_8_4 _ _ _ _ _ _ _ _ v (hB.at 0).1 (hB.at 0).2 (hB.at 1).1 (hB.at 1).2 (hB.at 2).1 (hB.at 2).2 (hB.at 3).1 (hB.at 3).2 (hB.at 4).1 (hB.at 4).2 (hB.at 5).1 (hB.at 5).2 (hB.at 6).1 (hB.at 6).2 (hB.at 7).1 (hB.at 7).2 hf hv]
  · rw [put_8_5 v h0 h1, at_8_5 _ _ _ _ _ _ _ _ v (hB.at 0).1 (hB.at 0).2 (hB.at 1).1 (hB.at 1).2 (hB.at 2).1 (hB.at 2).2 (hB.at 3).1 (hB.at 3).2 (hB.at 4).1 (hB.at 4).2 (hB.at 5).1 (hB.at 5).2 (hB.at 6).1 (hB.at 6).2 (hB.at 7).1 (hB.at 7).2 hf hv]
  · rw [put_8_6 v h0 h1, at_8_6 _ _ _ _ _ _ _ _ v (hB.at 0).1 (hB.at 0).2 (hB.at 1).1 (hB.at 1).2 (hB.at 2).1 (hB.at 2).2 (hB.at 3).1 (hB.at 3).2 (hB.at 4).1 (hB.at 4).2 (hB.at 5).1 (hB.at 5).2 (hB.at 6).1 (hB.at 6).2 (hB.at 7).1 (hB.at 7).2 hf hv]
  · rw [put_8_7 v h0 h1, at_8_7 _ _ _ _ _ _ _ _ v (hB.at 0).1 (hB.at 0).2 (hB.at 1).1 (hB.at 1).2 (hB.at 2).1 (hB.at 2).2 (hB.at 3).1 (hB.at 3).2 (hB.at 4).1 (hB.at 4).2 (hB.at 5).1 (hB.at 5).2 (hB.at 6).1 (hB.at 6).2 (hB.at 7).1 (hB.at 7).2 hf hv]

theorem range_of (v : Int) (h : okv v) : (0 ≤ v ∧ v ≤ 63) ∨ (64 ≤ v ∧ v ≤ 16383) ∨ (16384 ≤ v ∧ v ≤ 1073741823) ∨ (1073741824 ≤ v ∧ v ≤ 4611686018427387903) := by
  obtain ⟨a, b⟩ := h; omega

theorem gvm_pos (x : Int) : 0 < gvm x ∧ gvm x ≤ 4611686018427387904 := by
  unfold gvm; split <;> (try split) <;> (try split) <;> decide

/-- What a reading that went well tells. -/
theorem gv_good (xs : List Int) (i : Nat) (h : (gv xs i).2.2 = 0) : xs.length ≤ 65536 ∧ i < xs.length ∧ i + gvn (xs.getD i 0) ≤ xs.length ∧ (gv xs i).2.1 = (i : Int) + gvn (xs.getD i 0) ∧ (gv xs i).1 = vals ((xs.drop i).take (gvn (xs.getD i 0))) % gvm (xs.getD i 0) ∧ okv (gv xs i).1 := by
  by_cases h1 : 65536 < xs.length
  · unfold gv at h; rw [if_pos h1] at h; simp at h
  · by_cases h2 : (i : Int) < 0 ∨ (xs.length : Int) < i
    · unfold gv at h; rw [if_neg h1, if_pos h2] at h; simp at h
    · by_cases h3 : (i : Int) = xs.length
      · unfold gv at h; rw [if_neg h1, if_neg h2, if_pos h3] at h; simp at h
      · by_cases h4 : xs.length < i + gvn (xs.getD i 0)
        · rw [gv_short xs i (by omega) (by omega) h4] at h; simp at h
        · have e := gv_ok xs i (by omega) (by omega) (by omega)
          rw [e]
          have hp := gvm_pos (xs.getD i 0)
          refine ⟨by omega, by omega, by omega, rfl, rfl, ?_⟩
          have h5 := Int.emod_nonneg (vals ((xs.drop i).take (gvn (xs.getD i 0)))) (show gvm (xs.getD i 0) ≠ 0 by omega)
          have h6 := Int.emod_lt_of_pos (vals ((xs.drop i).take (gvn (xs.getD i 0)))) hp.1
          exact ⟨h5, by show _ % _ ≤ _; omega⟩

/-- A number in its shortest form: its bytes are those that are put. -/
theorem gv_short_piece (xs : List Int) (i : Nat) (hB : Bytes xs) (h : (gv xs i).2.2 = 0) (hs : (gv xs i).2.1 - i = vsize (gv xs i).1) : (xs.drop i).take (vsize (gv xs i).1).toNat = putv (gv xs i).1 := by
  obtain ⟨g1, g2, g3, g4, g5, g6⟩ := gv_good xs i h
  have hn : vsize (gv xs i).1 = gvn (xs.getD i 0) := by rw [← hs, g4]; omega
  have hb := hB.at i
  have hsB : Bytes ((xs.drop i).take (gvn (xs.getD i 0))) := (hB.drop i).take _
  have hsl := sub_length xs i (gvn (xs.getD i 0)) g3
  have hh := sub_at xs i (gvn (xs.getD i 0)) 0 (by have := gvn_bd (xs.getD i 0); omega)
  rw [Nat.add_zero] at hh
  have e2 : (vsize (gv xs i).1).toNat = gvn (xs.getD i 0) := by rw [hn]; omega
  rw [e2]
  generalize gv xs i = p at g5 g6 hn
  obtain ⟨v, q, c⟩ := p
  simp only at g5 g6 hn ⊢
  generalize (xs.drop i).take (gvn (xs.getD i 0)) = ys at *
  generalize xs.getD i 0 = x at *
  rcases gv_form x hb.1 hb.2 with ⟨hf, e, em⟩ | ⟨hf, e, em⟩ | ⟨hf, e, em⟩ | ⟨hf, e, em⟩
  · rw [e] at hn hsl; rw [em] at g5
    have hr : 0 ≤ v ∧ v ≤ 63 := by
      rcases range_of v g6 with r | r | r | r
      · exact r
      · have := (putv_2 v r.1 r.2).1; omega
      · have := (putv_4 v r.1 r.2).1; omega
      · have := (putv_8 v r.1 r.2).1; omega
    exact same_1 ys v hsl hsB (by rw [hh]; exact hf) g5 hr.1 hr.2
  · rw [e] at hn hsl; rw [em] at g5
    have hr : 64 ≤ v ∧ v ≤ 16383 := by
      rcases range_of v g6 with r | r | r | r
      · have := (putv_1 v r.1 r.2).1; omega
      · exact r
      · have := (putv_4 v r.1 r.2).1; omega
      · have := (putv_8 v r.1 r.2).1; omega
    exact same_2 ys v hsl hsB (by rw [hh]; exact hf) g5 hr.1 hr.2
  · rw [e] at hn hsl; rw [em] at g5
    have hr : 16384 ≤ v ∧ v ≤ 1073741823 := by
      rcases range_of v g6 with r | r | r | r
      · have := (putv_1 v r.1 r.2).1; omega
      · have := (putv_2 v r.1 r.2).1; omega
      · exact r
      · have := (putv_8 v r.1 r.2).1; omega
    exact same_4 ys v hsl hsB (by rw [hh]; exact hf) g5 hr.1 hr.2
  · rw [e] at hn hsl; rw [em] at g5
    have hr : 1073741824 ≤ v ∧ v ≤ 4611686018427387903 := by
      rcases range_of v g6 with r | r | r | r
      · have := (putv_1 v r.1 r.2).1; omega
      · have := (putv_2 v r.1 r.2).1; omega
      · have := (putv_4 v r.1 r.2).1; omega
      · exact r
    exact same_8 ys v hsl hsB (by rw [hh]; exact hf) g5 hr.1 hr.2

/-- Where the bytes that are put stand, they are read. -/
theorem gv_put (xs : List Int) (i : Nat) (v : Int) (hv : okv v) (hl : xs.length ≤ 65536) (h : (xs.drop i).take (vsize v).toNat = putv v) : gv xs i = (v, (i : Int) + vsize v, 0) := by
  have hvb := vsize_bd v hv
  have hpl := putv_length v
  have hlen : ((xs.drop i).take (vsize v).toNat).length = (vsize v).toNat := by rw [h, hpl]
  rw [List.length_take, List.length_drop] at hlen
  have hh : xs.getD i 0 = (putv v).getD 0 0 := by
    rw [← h, sub_at xs i _ 0 (by omega), Nat.add_zero]
  rcases range_of v hv with r | r | r | r
  · have hs := (putv_1 v r.1 r.2).1
    have hf := head_form_1 v r.1 r.2
    rw [← hh] at hf
    rw [hs] at h hlen
    obtain ⟨hf1, hf2⟩ : gvn (xs.getD i 0) = 1 ∧ gvm (xs.getD i 0) = 64 := by
      rcases gv_form _ hf.2.1 hf.2.2 with ⟨a, b, c⟩ | ⟨a, b, c⟩ | ⟨a, b, c⟩ | ⟨a, b, c⟩
      · exact ⟨b, c⟩
      · omega
      · omega
      · omega
    have hle : i + 1 ≤ xs.length := by simp at hlen; omega
    rw [gv_ok xs i hl (by omega) (by rw [hf1]; omega), hf1, hf2, hs]
    have h' : (xs.drop i).take 1 = putv v := h
    rw [h', back_1 v r.1 r.2]
    rfl
  · have hs := (putv_2 v r.1 r.2).1
    have hf := head_form_2 v r.1 r.2
    rw [← hh] at hf
    rw [hs] at h hlen
    obtain ⟨hf1, hf2⟩ : gvn (xs.getD i 0) = 2 ∧ gvm (xs.getD i 0) = 16384 := by
      rcases gv_form _ hf.2.1 hf.2.2 with ⟨a, b, c⟩ | ⟨a, b, c⟩ | ⟨a, b, c⟩ | ⟨a, b, c⟩
      · omega
      · exact ⟨b, c⟩
      · omega
      · omega
    have hle : i + 2 ≤ xs.length := by simp at hlen; omega
    rw [gv_ok xs i hl (by omega) (by rw [hf1]; omega), hf1, hf2, hs]
    have h' : (xs.drop i).take 2 = putv v := h
    rw [h', back_2 v r.1 r.2]
    rfl
  · have hs := (putv_4 v r.1 r.2).1
    have hf := head_form_4 v r.1 r.2
    rw [← hh] at hf
    rw [hs] at h hlen
    obtain ⟨hf1, hf2⟩ : gvn (xs.getD i 0) = 4 ∧ gvm (xs.getD i 0) = 1073741824 := by
      rcases gv_form _ hf.2.1 hf.2.2 with ⟨a, b, c⟩ | ⟨a, b, c⟩ | ⟨a, b, c⟩ | ⟨a, b, c⟩
      · omega
      · omega
      · exact ⟨b, c⟩
      · omega
    have hle : i + 4 ≤ xs.length := by simp at hlen; omega
    rw [gv_ok xs i hl (by omega) (by rw [hf1]; omega), hf1, hf2, hs]
    have h' : (xs.drop i).take 4 = putv v := h
    rw [h', back_4 v r.1 r.2]
    rfl
  · have hs := (putv_8 v r.1 r.2).1
    have hf := head_form_8 v r.1 r.2
    rw [← hh] at hf
    rw [hs] at h hlen
    obtain ⟨hf1, hf2⟩ : gvn (xs.getD i 0) = 8 ∧ gvm (xs.getD i 0) = 4611686018427387904 := by
      rcases gv_form _ hf.2.1 hf.2.2 with ⟨a, b, c⟩ | ⟨a, b, c⟩ | ⟨a, b, c⟩ | ⟨a, b, c⟩
      · omega
      · omega
      · omega
      · exact ⟨b, c⟩
    have hle : i + 8 ≤ xs.length := by simp at hlen; omega
    rw [gv_ok xs i hl (by omega) (by rw [hf1]; omega), hf1, hf2, hs]
    have h' : (xs.drop i).take 8 = putv v := h
    rw [h', back_8 v r.1 r.2]
    rfl
end Go.Proofs.YtkjfpgdnhdnceahDoor
