import Derived.Test.YtkjfpgdnhdnceahDoorGetVar
namespace Go.Proofs.YtkjfpgdnhdnceahDoor
open Go.RowKit
set_option linter.unusedVariables false

def gvn (x : Int) : Nat := if x / 64 = 0 then 1 else if x / 64 = 1 then 2 else if x / 64 = 2 then 4 else 8
def gvm (x : Int) : Int := if x / 64 = 0 then 64 else if x / 64 = 1 then 16384 else if x / 64 = 2 then 1073741824 else 4611686018427387904
/-- What stands at a place: the number, the place behind it, the code. -/
def gv (xs : List Int) (a : Int) : Int × Int × Int :=
  if 65536 < xs.length then (0, 0, 4) else if a < 0 ∨ (xs.length : Int) < a then (0, 0, 1) else if a = xs.length then (0, 0, 2)
  else if xs.length < a.toNat + gvn (xs.getD a.toNat 0) then (0, 0, 2)
  else (vals ((xs.drop a.toNat).take (gvn (xs.getD a.toNat 0))) % gvm (xs.getD a.toNat 0), a + gvn (xs.getD a.toNat 0), 0)

theorem sub_at (xs : List Int) (a m j : Nat) (h : j < m) : ((xs.drop a).take m).getD j 0 = xs.getD (a + j) 0 := by simp [List.getD, h]
theorem sub_length (xs : List Int) (a m : Nat) (h : a + m ≤ xs.length) : ((xs.drop a).take m).length = m := by rw [List.length_take, List.length_drop]; omega

theorem gv_form (x : Int) (h0 : 0 ≤ x) (h1 : x < 256) : (x / 64 = 0 ∧ gvn x = 1 ∧ gvm x = 64) ∨ (x / 64 = 1 ∧ gvn x = 2 ∧ gvm x = 16384) ∨ (x / 64 = 2 ∧ gvn x = 4 ∧ gvm x = 1073741824) ∨ (x / 64 = 3 ∧ gvn x = 8 ∧ gvm x = 4611686018427387904) := by
  have : x / 64 = 0 ∨ x / 64 = 1 ∨ x / 64 = 2 ∨ x / 64 = 3 := by omega
  rcases this with h | h | h | h
  · exact Or.inl ⟨h, by unfold gvn; rw [if_pos h], by unfold gvm; rw [if_pos h]⟩
  · exact Or.inr (Or.inl ⟨h, by unfold gvn; rw [if_neg (by omega), if_pos h], by unfold gvm; rw [if_neg (by omega), if_pos h]⟩)
  · exact Or.inr (Or.inr (Or.inl ⟨h, by unfold gvn; rw [if_neg (by omega), if_neg (by omega), if_pos h], by unfold gvm; rw [if_neg (by omega), if_neg (by omega), if_pos h]⟩))
  · exact Or.inr (Or.inr (Or.inr ⟨h, by unfold gvn; rw [if_neg (by omega), if_neg (by omega), if_neg (by omega)], by unfold gvm; rw [if_neg (by omega), if_neg (by omega), if_neg (by omega)]⟩))
theorem gvn_bd (x : Int) : 1 ≤ gvn x ∧ gvn x ≤ 8 := by
  unfold gvn; split <;> (try split) <;> (try split) <;> omega

theorem gv_short (xs : List Int) (i : Nat) (h : xs.length ≤ 65536) (hi : i < xs.length) (hs : xs.length < i + gvn (xs.getD i 0)) : gv xs i = (0, 0, 2) := by
  unfold gv
  rw [if_neg (by omega), if_neg (by omega), if_neg (by omega), Int.toNat_natCast, if_pos hs]
theorem gv_ok (xs : List Int) (i : Nat) (h : xs.length ≤ 65536) (hi : i < xs.length) (hs : i + gvn (xs.getD i 0) ≤ xs.length) :
    gv xs i = (vals ((xs.drop i).take (gvn (xs.getD i 0))) % gvm (xs.getD i 0), (i : Int) + gvn (xs.getD i 0), 0) := by
  unfold gv
  rw [if_neg (by omega), if_neg (by omega), if_neg (by omega), Int.toNat_natCast, if_neg (by omega)]

theorem specGetVar (v : Value) (xs : List Int) (a : Int) (w : World) (hrow : Row w .u8 v xs) (hB : Bytes xs) (hm : xs.length ≤ 9223372036854775807) :
    Calls Tryd.prog 6 #[v, .int .i64 a] w fun e w' => e = .returned (.tuple #[.int .i64 (gv xs a).1, .int .i64 (gv xs a).2.1, .int .i64 (gv xs a).2.2]) ∧ w' = w := by
  by_cases h16 : 65536 < xs.length
  · have e : gv xs a = (0, 0, 4) := by unfold gv; rw [if_pos h16]
    rw [e]
    obtain ⟨ao, cap, rfl⟩ := hrow.form
    exact specGV_long ao _ cap a w h16 hm
  · by_cases hbad : a < 0 ∨ (xs.length : Int) < a
    · have e : gv xs a = (0, 0, 1) := by unfold gv; rw [if_neg h16, if_pos hbad]
      rw [e]
      obtain ⟨ao, cap, rfl⟩ := hrow.form
      exact specGV_bad ao _ cap a w (by omega) hbad
    · by_cases hend : a = xs.length
      · have e : gv xs a = (0, 0, 2) := by unfold gv; rw [if_neg h16, if_neg hbad, if_pos hend]
        rw [e]
        obtain ⟨ao, cap, rfl⟩ := hrow.form
        subst hend
        exact specGV_end ao _ cap w (by omega)
      · obtain ⟨i, rfl⟩ := Int.eq_ofNat_of_zero_le (show 0 ≤ a by omega)
        have hi : i < xs.length := by omega
        obtain ⟨b, off, cap, rfl, hb, hcap, hc⟩ := hrow.full (by omega)
        have hx := hB.at i
        have c0 := hc i hi
        by_cases hs : xs.length < i + gvn (xs.getD i 0)
        · rw [gv_short xs i (by omega) hi hs]
          rcases gv_form _ hx.1 hx.2 with ⟨hf, hn, _⟩ | ⟨hf, hn, _⟩ | ⟨hf, hn, _⟩ | ⟨hf, hn, _⟩
          · rw [hn] at hs; omega
          · rw [hn] at hs; exact specGV_short_2 b off _ cap i _ w (by omega) hi hs c0 hx.1 hx.2 hf
          · rw [hn] at hs; exact specGV_short_4 b off _ cap i _ w (by omega) hi hs c0 hx.1 hx.2 hf
          · rw [hn] at hs; exact specGV_short_8 b off _ cap i _ w (by omega) hi hs c0 hx.1 hx.2 hf
        · rw [gv_ok xs i (by omega) hi (by omega)]
          rcases gv_form _ hx.1 hx.2 with ⟨hf, hn, hmm⟩ | ⟨hf, hn, hmm⟩ | ⟨hf, hn, hmm⟩ | ⟨hf, hn, hmm⟩
          · rw [hn, hmm]
            rw [hn] at hs
            have hsl := sub_length xs i 1 (by omega)
            rw [vals_1 _ hsl, sub_at xs i 1 0 (by decide), Nat.add_zero, low_1 _ (hB.at i).1 (hB.at i).2 hf]
            exact specGV_1 b off _ cap i _ w (by omega) (by omega) c0 (hB.at i).1 (hB.at i).2 hf
          · rw [hn, hmm]
            rw [hn] at hs
            have hsl := sub_length xs i 2 (by omega)
            rw [vals_2 _ hsl, sub_at xs i 2 0 (by decide), sub_at xs i 2 1 (by decide), Nat.add_zero, low_2 _ _ (hB.at i).1 (hB.at i).2 (hB.at (i + 1)).1 (hB.at (i + 1)).2 hf]
            exact specGV_2 b off _ cap i _ _ w (by omega) (by omega) c0 (hc (i + 1) (by omega)) (hB.at i).1 (hB.at i).2 (hB.at (i + 1)).1 (hB.at (i + 1)).2 hf
          · rw [hn, hmm]
            rw [hn] at hs
            have hsl := sub_length xs i 4 (by omega)
            rw [vals_4 _ hsl, sub_at xs i 4 0 (by decide), sub_at xs i 4 1 (by decide), sub_at xs i 4 2 (by decide), sub_at xs i 4 3 (by decide), Nat.add_zero, low_4 _ _ _ _ (hB.at i).1 (hB.at i).2 (hB.at (i + 1)).1 (hB.at (i + 1)).2 (hB.at (i + 2)).1 (hB.at (i + 2)).2 (hB.at (i + 3)).1 (hB.at (i + 3)).2 hf]
            exact specGV_4 b off _ cap i _ _ _ _ w (by omega) (by omega) c0 (hc (i + 1) (by omega)) (hc (i + 2) (by omega)) (hc (i + 3) (by omega)) (hB.at i).1 (hB.at i).2 (hB.at (i + 1)).1 (hB.at (i + 1)).2 (hB.at (i + 2)).1 (hB.at (i + 2)).2 (hB.at (i + 3)).1 (hB.at (i + 3)).2 hf
          · rw [hn, hmm]
            rw [hn] at hs
            have hsl := sub_length xs i 8 (by omega)
            rw [vals_8 _ hsl, sub_at xs i 8 0 (by decide), sub_at xs i 8 1 (by decide), sub_at xs i 8 2 (by decide), sub_at xs i 8 3 (by decide), sub_at xs i 8 4 (by decide), sub_at xs i 8 5 (by decide), sub_at xs i 8 6 (by decide), sub_at xs i 8 7 (by decide), Nat.add_zero, low_8 _ _ _ _ _ _ _ _ (hB.at i).1 (hB.at i).2 (hB.at (i + 1)).1 (hB.at (i + 1)).2 (hB.at (i + 2)).1 (hB.at (i + 2)).2 (hB.at (i + 3)).1 (hB.at (i + 3)).2 (hB.at (i + 4)).1 (hB.at (i + 4)).2 (hB.at (i + 5)).1 (hB.at (i + 5)).2 (hB.at (i + 6)).1 (hB.at (i + 6)).2 (hB.at (i + 7)).1 (hB.at (i + 7)).2 hf]
            exact specGV_8 b off _ cap i _ _ _ _ _ _ _ _ w (by omega) (by omega) c0 (hc (i + 1) (by omega)) (hc (i + 2) (by omega)) (hc (i + 3) (by omega)) (hc (i + 4) (by omega)) (hc (i + 5) (by omega)) (hc (i + 6) (by omega)) (hc (i + 7) (by omega)) (hB.at i).1 (hB.at i).2 (hB.at (i + 1)).1 (hB.at (i + 1)).2 (hB.at (i + 2)).1 (hB.at (i + 2)).2 (hB.at (i + 3)).1 (hB.at (i + 3)).2 (hB.at (i + 4)).1 (hB.at (i + 4)).2 (hB.at (i + 5)).1 (hB.at (i + 5)).2 (hB.at (i + 6)).1 (hB.at (i + 6)).2 (hB.at (i + 7)).1 (hB.at (i + 7)).2 hf

theorem implGetVar (v : Value) (xs : List Int) (a : Int) (w : World) (ht : Tab w) (hrow : Row w .u8 v xs) (hB : Bytes xs) (hm : xs.length ≤ 9223372036854775807) :
    Calls Tryd.prog 8 #[v, .int .i64 a] w fun e w' => e = .returned (.tuple #[.int .i64 (gv xs a).1, .int .i64 (gv xs a).2.1, .int .i64 (gv xs a).2.2]) ∧ w' = w := by
  by_cases h16 : 65536 < xs.length
  · have e : gv xs a = (0, 0, 4) := by unfold gv; rw [if_pos h16]
    rw [e]
    obtain ⟨ao, cap, rfl⟩ := hrow.form
    exact implGV_long ao _ cap a w h16 hm
  · by_cases hbad : a < 0 ∨ (xs.length : Int) < a
    · have e : gv xs a = (0, 0, 1) := by unfold gv; rw [if_neg h16, if_pos hbad]
      rw [e]
      obtain ⟨ao, cap, rfl⟩ := hrow.form
      exact implGV_bad ao _ cap a w (by omega) hbad
    · by_cases hend : a = xs.length
      · have e : gv xs a = (0, 0, 2) := by unfold gv; rw [if_neg h16, if_neg hbad, if_pos hend]
        rw [e]
        obtain ⟨ao, cap, rfl⟩ := hrow.form
        subst hend
        exact implGV_end ao _ cap w (by omega)
      · obtain ⟨i, rfl⟩ := Int.eq_ofNat_of_zero_le (show 0 ≤ a by omega)
        have hi : i < xs.length := by omega
        obtain ⟨b, off, cap, rfl, hb, hcap, hc⟩ := hrow.full (by omega)
        have hx := hB.at i
        have c0 := hc i hi
        by_cases hs : xs.length < i + gvn (xs.getD i 0)
        · rw [gv_short xs i (by omega) hi hs]
          rcases gv_form _ hx.1 hx.2 with ⟨hf, hn, _⟩ | ⟨hf, hn, _⟩ | ⟨hf, hn, _⟩ | ⟨hf, hn, _⟩
          · rw [hn] at hs; omega
          · rw [hn] at hs; exact implGV_short_2 b off _ cap i _ w ht (by omega) hi hs c0 hx.1 hx.2 hf
          · rw [hn] at hs; exact implGV_short_4 b off _ cap i _ w ht (by omega) hi hs c0 hx.1 hx.2 hf
          · rw [hn] at hs; exact implGV_short_8 b off _ cap i _ w ht (by omega) hi hs c0 hx.1 hx.2 hf
        · rw [gv_ok xs i (by omega) hi (by omega)]
          rcases gv_form _ hx.1 hx.2 with ⟨hf, hn, hmm⟩ | ⟨hf, hn, hmm⟩ | ⟨hf, hn, hmm⟩ | ⟨hf, hn, hmm⟩
          · rw [hn, hmm]
            rw [hn] at hs
            have hsl := sub_length xs i 1 (by omega)
            have hsB : Bytes ((xs.drop i).take 1) := (hB.drop i).take 1
            exact implGV_1 b off _ cap i _ _ w ht (by omega) (by omega) hcap c0 hx.1 hx.2 hf (vals_nonneg _ hsB) (vals_lt8 _ hsB (by omega))
              (fun cap' => read_core 1 _ b (off + i) cap' w (by decide) hsl hsB (fun j hj => by rw [Nat.add_assoc, hc (i + j) (by omega)]; simp [List.getD, hj]))
          · rw [hn, hmm]
            rw [hn] at hs
            have hsl := sub_length xs i 2 (by omega)
            have hsB : Bytes ((xs.drop i).take 2) := (hB.drop i).take 2
            exact implGV_2 b off _ cap i _ _ w ht (by omega) (by omega) hcap c0 hx.1 hx.2 hf (vals_nonneg _ hsB) (vals_lt8 _ hsB (by omega))
              (fun cap' => read_core 2 _ b (off + i) cap' w (by decide) hsl hsB (fun j hj => by rw [Nat.add_assoc, hc (i + j) (by omega)]; simp [List.getD, hj]))
          · rw [hn, hmm]
            rw [hn] at hs
            have hsl := sub_length xs i 4 (by omega)
            have hsB : Bytes ((xs.drop i).take 4) := (hB.drop i).take 4
            exact implGV_4 b off _ cap i _ _ w ht (by omega) (by omega) hcap c0 hx.1 hx.2 hf (vals_nonneg _ hsB) (vals_lt8 _ hsB (by omega))
              (fun cap' => read_core 4 _ b (off + i) cap' w (by decide) hsl hsB (fun j hj => by rw [Nat.add_assoc, hc (i + j) (by omega)]; simp [List.getD, hj]))
          · rw [hn, hmm]
            rw [hn] at hs
            have hsl := sub_length xs i 8 (by omega)
            have hsB : Bytes ((xs.drop i).take 8) := (hB.drop i).take 8
            exact implGV_8 b off _ cap i _ _ w ht (by omega) (by omega) hcap c0 hx.1 hx.2 hf (vals_nonneg _ hsB) (vals_lt8 _ hsB (by omega))
              (fun cap' => read_core 8 _ b (off + i) cap' w (by decide) hsl hsB (fun j hj => by rw [Nat.add_assoc, hc (i + j) (by omega)]; simp [List.getD, hj]))
end Go.Proofs.YtkjfpgdnhdnceahDoor
