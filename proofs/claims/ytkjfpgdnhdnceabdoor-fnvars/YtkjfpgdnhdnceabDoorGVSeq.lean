import Derived.Test.YtkjfpgdnhdnceabDoorGVMath
namespace Go.Proofs.YtkjfpgdnhdnceabDoor
open Go.RowKit
set_option linter.unusedVariables false

/-- Where the k-th number of a list stands; the number; the code. -/
def pos (xs : List Int) : Nat → Int
  | 0 => (gv xs 0).2.1
  | k + 1 => (gv xs (pos xs k)).2.1
def num (xs : List Int) (k : Nat) : Int := (gv xs (pos xs k)).1
def cod (xs : List Int) (k : Nat) : Int := (gv xs (pos xs k)).2.2
def nums (xs : List Int) (n : Nat) : List Int := (List.range n).map (num xs)
theorem nums_length (xs : List Int) (n : Nat) : (nums xs n).length = n := by simp [nums]
theorem nums_at (xs : List Int) (n k : Nat) (h : k < n) : (nums xs n).getD k 0 = num xs k := by simp [nums, List.getD, h]
theorem nums_succ (xs : List Int) (k : Nat) : nums xs (k + 1) = nums xs k ++ [num xs k] := by simp [nums, List.range_succ]
theorem nums_take (xs : List Int) (n k : Nat) (h : k ≤ n) : (nums xs n).take k = nums xs k := by
  unfold nums
  rw [← List.map_take, List.take_range, Nat.min_eq_left h]

/-- Whether a number stands there in its shortest form. -/
def short (xs : List Int) (a : Int) : Bool := decide ((gv xs a).2.2 = 0 ∧ (gv xs a).2.1 - a = vsize (gv xs a).1)

theorem gv_next (xs : List Int) (a : Int) (h0 : 0 ≤ a) : 0 ≤ (gv xs a).2.1 ∧ (gv xs a).2.1 ≤ 65536 := by
  obtain ⟨i, rfl⟩ := Int.eq_ofNat_of_zero_le h0
  by_cases h : (gv xs i).2.2 = 0
  · obtain ⟨g1, g2, g3, g4, _⟩ := gv_good xs i h
    show 0 ≤ (gv xs (i : Int)).2.1 ∧ (gv xs (i : Int)).2.1 ≤ 65536
    rw [g4]; omega
  · show 0 ≤ (gv xs (i : Int)).2.1 ∧ (gv xs (i : Int)).2.1 ≤ 65536
    revert h
    unfold gv
    split
    · intro _; decide
    · split
      · intro _; decide
      · split
        · intro _; decide
        · split
          · intro _; decide
          · intro h; exact absurd rfl h
theorem gv_num (xs : List Int) (a : Int) (h0 : 0 ≤ a) : 0 ≤ (gv xs a).1 ∧ (gv xs a).1 ≤ 4611686018427387903 := by
  obtain ⟨i, rfl⟩ := Int.eq_ofNat_of_zero_le h0
  by_cases h : (gv xs i).2.2 = 0
  · exact (gv_good xs i h).2.2.2.2.2
  · show 0 ≤ (gv xs (i : Int)).1 ∧ (gv xs (i : Int)).1 ≤ 4611686018427387903
    revert h
    unfold gv
    split
    · intro _; decide
    · split
      · intro _; decide
      · split
        · intro _; decide
        · split
          · intro _; decide
          · intro h; exact absurd rfl h
theorem gv_code (xs : List Int) (a : Int) : 0 ≤ (gv xs a).2.2 ∧ (gv xs a).2.2 ≤ 4 := by
  unfold gv
  split
  · decide
  · split
    · decide
    · split
      · decide
      · split
        · decide
        · exact ⟨Int.le_refl 0, by show (0 : Int) ≤ 4; decide⟩
theorem pos_bd (xs : List Int) (k : Nat) : 0 ≤ pos xs k ∧ pos xs k ≤ 65536 := by
  induction k with
  | zero => exact gv_next xs 0 (by decide)
  | succ k ih => exact gv_next xs _ ih.1
theorem num_bd (xs : List Int) (k : Nat) : okv (num xs k) := gv_num xs _ (pos_bd xs k).1

/-- How many numbers the list has. -/
def cnt (xs : List Int) : Nat := (gv xs 0).1.toNat
theorem cnt_eq (xs : List Int) : ((cnt xs : Nat) : Int) = (gv xs 0).1 := by
  have := (gv_num xs 0 (by decide)).1
  unfold cnt; omega

/-- The row of bytes is one that the program takes. -/
def goodI (xs : List Int) : Prop := short xs 0 = true ∧ cnt xs ≤ 4096 ∧ (∀ k, k < cnt xs → short xs (pos xs k) = true) ∧ pos xs (cnt xs) = xs.length
/-- The row of bytes is one that the specification takes. -/
def goodS (xs : List Int) : Prop := (gv xs 0).2.2 = 0 ∧ cnt xs ≤ 4096 ∧ (∀ k, k < cnt xs → cod xs k = 0) ∧ cat (nums xs (cnt xs)) (cnt xs) = xs

theorem pre_of (xs : List Int) (n k : Nat) (h : k ≤ n) : cat (nums xs n) k = putv n ++ (nums xs k).flatMap putv := by
  unfold cat; rw [nums_take xs n k h, nums_length]

theorem goodS_of_goodI (xs : List Int) (hB : Bytes xs) (h : goodI xs) : goodS xs := by
  obtain ⟨h1, h2, h3, h4⟩ := h
  have h1' := of_decide_eq_true h1
  have hc : ∀ k, k < cnt xs → cod xs k = 0 := fun k hk => (of_decide_eq_true (h3 k hk)).1
  refine ⟨h1'.1, h2, hc, ?_⟩
  have inv : ∀ k, k ≤ cnt xs → ∃ p : Nat, pos xs k = p ∧ p ≤ xs.length ∧ xs.take p = putv (cnt xs) ++ (nums xs k).flatMap putv := by
    intro k
    induction k with
    | zero =>
      intro _
      obtain ⟨g1, g2, g3, g4, g5, g6⟩ := gv_good xs 0 h1'.1
      have e := gv_short_piece xs 0 hB h1'.1 (by simpa using h1'.2)
      have hs := h1'.2
      refine ⟨gvn (xs.getD 0 0), by show (gv xs 0).2.1 = _; have := g4; simpa using this, by omega, ?_⟩
      have e2 : (vsize (gv xs (0 : Nat)).1).toNat = gvn (xs.getD 0 0) := by
        have : (gv xs (0 : Nat)).2.1 - (0 : Int) = vsize (gv xs (0 : Nat)).1 := hs
        rw [← this, g4]; simp
      rw [e2] at e
      have e3 : ((cnt xs : Nat) : Int) = (gv xs (0 : Nat)).1 := cnt_eq xs
      rw [e3, ← e]
      simp [nums]
    | succ k ih =>
      intro hk
      obtain ⟨p, hp, hpl, ht⟩ := ih (by omega)
      have hsk := of_decide_eq_true (h3 k (by omega))
      rw [hp] at hsk
      obtain ⟨g1, g2, g3, g4, g5, g6⟩ := gv_good xs p hsk.1
      have e := gv_short_piece xs p hB hsk.1 hsk.2
      have e2 : (vsize (gv xs (p : Int)).1).toNat = gvn (xs.getD p 0) := by
        rw [← hsk.2, g4]; omega
      rw [e2] at e
      have hnum : num xs k = (gv xs (p : Int)).1 := by unfold num; rw [hp]
      refine ⟨p + gvn (xs.getD p 0), ?_, g3, ?_⟩
      · show (gv xs (pos xs k)).2.1 = _
        rw [hp, g4]; omega
      · rw [List.take_add, ht, e, nums_succ, List.flatMap_append, hnum]
        simp
  obtain ⟨p, hp, hpl, ht⟩ := inv (cnt xs) (Nat.le_refl _)
  rw [h4] at hp
  have : p = xs.length := by omega
  rw [this, List.take_length] at ht
  rw [pre_of xs _ _ (Nat.le_refl _)]
  exact ht.symm

theorem drop_take_piece (xs pre rest : List Int) (v : Int) (h : xs = pre ++ (putv v ++ rest)) : (xs.drop pre.length).take (vsize v).toNat = putv v := by
  subst h
  rw [List.drop_left, ← putv_length, List.take_left]

theorem goodI_of_goodS (xs : List Int) (hl : xs.length ≤ 65536) (h : goodS xs) : goodI xs := by
  obtain ⟨h1, h2, h3, h4⟩ := h
  have hcat : ∀ k, k ≤ cnt xs → xs = (putv (cnt xs) ++ (nums xs k).flatMap putv) ++ ((nums xs (cnt xs)).drop k).flatMap putv := by
    intro k hk
    have : (nums xs (cnt xs)) = nums xs k ++ (nums xs (cnt xs)).drop k := by
      rw [← nums_take xs (cnt xs) k hk, List.take_append_drop]
    rw [pre_of xs _ _ (Nat.le_refl _)] at h4
    rw [List.append_assoc, ← List.flatMap_append, ← this]
    exact h4.symm
  have hc0 : okv (cnt xs : Int) := ⟨by omega, by omega⟩
  have e0 : gv xs (0 : Nat) = ((cnt xs : Int), ((0 : Nat) : Int) + vsize (cnt xs), 0) := by
    refine gv_put xs 0 _ hc0 hl ?_
    have := hcat 0 (by omega)
    rw [List.append_assoc] at this
    exact drop_take_piece xs [] _ _ this
  have step : ∀ k, k ≤ cnt xs → pos xs k = ((putv (cnt xs) ++ (nums xs k).flatMap putv).length : Nat) ∧ ∀ j, j < k → short xs (pos xs j) = true := by
    intro k
    induction k with
    | zero =>
      intro _
      refine ⟨?_, fun j hj => by omega⟩
      show (gv xs (0 : Nat)).2.1 = _
      rw [e0]
      have := (vsize_bd _ hc0).1
      simp only [nums, List.range_zero, List.map_nil, List.flatMap_nil, List.append_nil, putv_length]
      omega
    | succ k ih =>
      intro hk
      obtain ⟨hp, hs⟩ := ih (by omega)
      have hx := hcat k (by omega)
      have hd : (nums xs (cnt xs)).drop k = num xs k :: (nums xs (cnt xs)).drop (k + 1) := by
        have hlt : k < (nums xs (cnt xs)).length := by rw [nums_length]; omega
        rw [List.drop_eq_getElem_cons hlt]
        have : (nums xs (cnt xs))[k] = num xs k := by simp [nums]
        rw [this]
      generalize hq : (putv (cnt xs) ++ (nums xs k).flatMap putv) = pre at hp hx
      have hg : gv xs (pre.length : Nat) = (num xs k, ((pre.length : Nat) : Int) + vsize (num xs k), 0) := by
        refine gv_put xs pre.length _ (num_bd xs k) hl ?_
        rw [hd, List.flatMap_cons] at hx
        exact drop_take_piece xs pre _ _ hx
      have hvb := (vsize_bd _ (num_bd xs k)).1
      refine ⟨?_, fun j hj => ?_⟩
      · show (gv xs (pos xs k)).2.1 = _
        rw [hp, hg, nums_succ, List.flatMap_append, ← List.append_assoc, hq]
        simp only [List.length_append, List.flatMap_cons, List.flatMap_nil, List.append_nil, putv_length]
        omega
      · by_cases e : j = k
        · subst e
          unfold short
          rw [hp, hg]
          simp
          omega
        · exact hs j (by omega)
  obtain ⟨hp, hs⟩ := step (cnt xs) (Nat.le_refl _)
  refine ⟨?_, h2, hs, ?_⟩
  · unfold short
    have e0' : gv xs 0 = ((cnt xs : Int), ((0 : Nat) : Int) + vsize (cnt xs), 0) := e0
    rw [e0']
    simp
  · rw [hp]
    rw [pre_of xs _ _ (Nat.le_refl _)] at h4
    rw [h4]

theorem good_iff (xs : List Int) (hB : Bytes xs) (hl : xs.length ≤ 65536) : goodI xs ↔ goodS xs := ⟨goodS_of_goodI xs hB, goodI_of_goodS xs hl⟩

def goodB (xs : List Int) : Bool := short xs 0 && decide (cnt xs ≤ 4096) && (List.range (cnt xs)).all (fun k => short xs (pos xs k)) && decide (pos xs (cnt xs) = (xs.length : Int))
theorem goodB_iff (xs : List Int) : goodB xs = true ↔ goodI xs := by
  unfold goodB goodI
  simp only [Bool.and_eq_true, decide_eq_true_eq, List.all_eq_true, List.mem_range]
  constructor
  · rintro ⟨⟨⟨h1, h2⟩, h3⟩, h4⟩
    exact ⟨h1, h2, h3, h4⟩
  · rintro ⟨h1, h2, h3, h4⟩
    exact ⟨⟨⟨h1, h2⟩, h3⟩, h4⟩
def gcode (xs : List Int) : Int := if 65536 < xs.length then 4 else if goodB xs = true then 0 else 3
def glist (xs : List Int) : List Int := if 65536 < xs.length then [] else if goodB xs = true then nums xs (cnt xs) else []
theorem g_long (xs : List Int) (h : 65536 < xs.length) : gcode xs = 4 ∧ glist xs = [] := by
  simp only [gcode, glist, if_pos h]; exact ⟨trivial, trivial⟩
theorem g_ok (xs : List Int) (h : xs.length ≤ 65536) (ha : goodI xs) : gcode xs = 0 ∧ glist xs = nums xs (cnt xs) := by
  have h' : ¬ 65536 < xs.length := by omega
  have hb := (goodB_iff xs).2 ha
  simp only [gcode, glist, if_neg h', if_pos hb]; exact ⟨trivial, trivial⟩
theorem g_no (xs : List Int) (h : xs.length ≤ 65536) (ha : ¬ goodI xs) : gcode xs = 3 ∧ glist xs = [] := by
  have h' : ¬ 65536 < xs.length := by omega
  have hb : ¬ goodB xs = true := fun h => ha ((goodB_iff xs).1 h)
  simp only [gcode, glist, if_neg h', if_neg hb]; exact ⟨trivial, trivial⟩
theorem glist_length (xs : List Int) : (glist xs).length ≤ 4096 := by
  by_cases h : 65536 < xs.length
  · rw [(g_long xs h).2]; simp
  · by_cases ha : goodI xs
    · rw [(g_ok xs (by omega) ha).2, nums_length]; exact ha.2.1
    · rw [(g_no xs (by omega) ha).2]; simp
end Go.Proofs.YtkjfpgdnhdnceabDoor
