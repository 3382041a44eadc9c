import Derived.Test.YtkjfpgdnhdnceahDoorPutVars
namespace Go.Proofs.YtkjfpgdnhdnceahDoor
open Go.RowKit
set_option linter.unusedVariables false

theorem first_bad (p : Nat → Prop) : ∀ n : Nat, (∀ j, j < n → p j) ∨ ∃ q, q < n ∧ (∀ j, j < q → p j) ∧ ¬ p q := by
  intro n
  induction n with
  | zero => exact Or.inl (fun j h => by omega)
  | succ n ih =>
    rcases ih with h | ⟨q, hq, h1, h2⟩
    · by_cases hp : p n
      · left
        intro j hj
        by_cases e : j = n
        · subst e; exact hp
        · exact h j (by omega)
      · exact Or.inr ⟨n, by omega, h, hp⟩
    · exact Or.inr ⟨q, by omega, h1, h2⟩

/-- Whether every number has a form. -/
def allok (xs : List Int) : Prop := ∀ j, j < xs.length → okv (xs.getD j 0)
def allokB (xs : List Int) : Bool := xs.all fun x => decide (0 ≤ x) && decide (x ≤ 4611686018427387903)
theorem allokB_iff (xs : List Int) : allokB xs = true ↔ allok xs := by
  unfold allokB
  rw [List.all_eq_true]
  constructor
  · intro h j hj
    have := h (xs[j]) (List.getElem_mem hj)
    simp only [Bool.and_eq_true, decide_eq_true_eq] at this
    have e : xs.getD j 0 = xs[j] := by simp [List.getD, hj]
    rw [e]
    exact this
  · intro h x hx
    obtain ⟨j, hj, rfl⟩ := List.getElem_of_mem hx
    have := h j hj
    have e : xs.getD j 0 = xs[j] := by simp [List.getD, hj]
    rw [e] at this
    simp only [Bool.and_eq_true, decide_eq_true_eq]
    exact this
def pcode (xs : List Int) : Int := if 4096 < xs.length then 4 else if allokB xs = true then 0 else 1
def plist (xs : List Int) : List Int := if 4096 < xs.length then [] else if allokB xs = true then cat xs xs.length else []

theorem p_long (xs : List Int) (h : 4096 < xs.length) : pcode xs = 4 ∧ plist xs = [] := by
  unfold pcode plist; rw [if_pos h, if_pos h]; exact ⟨rfl, rfl⟩
theorem p_ok (xs : List Int) (h : xs.length ≤ 4096) (ha : allok xs) : pcode xs = 0 ∧ plist xs = cat xs xs.length := by
  have h' : ¬ 4096 < xs.length := by omega
  have hb := (allokB_iff xs).2 ha
  simp only [pcode, plist, if_neg h', if_pos hb]; exact ⟨trivial, trivial⟩
theorem p_no (xs : List Int) (h : xs.length ≤ 4096) (ha : ¬ allok xs) : pcode xs = 1 ∧ plist xs = [] := by
  have h' : ¬ 4096 < xs.length := by omega
  have hb : ¬ allokB xs = true := fun h => ha ((allokB_iff xs).1 h)
  simp only [pcode, plist, if_neg h', if_neg hb]; exact ⟨trivial, trivial⟩
theorem plist_length (xs : List Int) : (plist xs).length ≤ 32776 := by
  by_cases h : 4096 < xs.length
  · rw [(p_long xs h).2]; simp
  · by_cases ha : allok xs
    · rw [(p_ok xs (by omega) ha).2]
      have := cat_length xs xs.length ⟨by omega, by omega⟩ (Nat.le_refl _) ha
      omega
    · rw [(p_no xs (by omega) ha).2]; simp

theorem specPVs_nil (ao : Option Addr) (cap : Nat) (w : World) :
    Calls Tryd.prog 10 #[.slice ao 0 cap] w fun e w' => ∃ r, e = .returned (.tuple #[r, .int .i64 0]) ∧ w'.ownsRow w.heap.size 5 1 r (cat [] 0).length ((cat [] 0).map (Value.int .u8)) ∧ Below w.heap.size w w' := by
  have P0 := specPutVar 0 w (by decide) (by decide)
  have e1 : cat [] 0 = putv 0 := by unfold cat; simp
  have e2 : (vsize 0).toNat = (putv 0).length := (putv_length 0).symm
  rw [e2] at P0
  rw [e1]
  generalize putv 0 = ys at P0 ⊢
  clear e1 e2
  go_enter Tryd.func10, Tryd.ntmps10
  go_wp2_with (go_at_call 24; refine P0.mono ?_; rintro e w1 ⟨r, rfl, hown0, hb0⟩)
  refine wp_loop_rounds 1 ?_
  rw [rounds_succ]
  go_wp2
  go_ret2
  exact ⟨_, rfl, hown0, hb0⟩

theorem specPutVars (v : Value) (xs : List Int) (w : World) (hrow : Row w .i64 v xs) (hm : xs.length ≤ 9223372036854775807) :
    Calls Tryd.prog 10 #[v] w fun e w' => ∃ r, e = .returned (.tuple #[r, .int .i64 (pcode xs)]) ∧ w'.ownsRow w.heap.size 5 1 r (plist xs).length ((plist xs).map (Value.int .u8)) ∧ Below w.heap.size w w' := by
  by_cases h : 4096 < xs.length
  · obtain ⟨ao, cap, rfl⟩ := hrow.form
    rw [(p_long xs h).1, (p_long xs h).2]
    exact specPVs_long ao _ cap w h hm
  · by_cases h0 : 0 < xs.length
    · obtain ⟨b, off, cap, rfl, hb, hc⟩ := hrow.at h0
      rcases first_bad (fun j => okv (xs.getD j 0)) xs.length with ha | ⟨q, hq, h1, h2⟩
      · rw [(p_ok xs (by omega) ha).1, (p_ok xs (by omega) ha).2]
        exact specPVs_ok xs.length xs b off cap w (by omega) rfl hb ha hc
      · have hn : ¬ allok xs := fun ha => h2 (ha q hq)
        rw [(p_no xs (by omega) hn).1, (p_no xs (by omega) hn).2]
        exact specPVs_no xs.length xs b off cap w (by omega) rfl hb q hq h1 h2 hc
    · obtain rfl : xs = [] := List.eq_nil_of_length_eq_zero (by omega)
      obtain ⟨ao, cap, rfl⟩ := hrow.form
      have ha : allok [] := fun j hj => by simp at hj
      rw [(p_ok [] (by simp) ha).1, (p_ok [] (by simp) ha).2]
      exact specPVs_nil ao cap w

theorem implPVs_nil (ao : Option Addr) (cap : Nat) (w : World) (ht : Tab w) :
    Calls Tryd.prog 12 #[.slice ao 0 cap] w fun e w' => ∃ r, e = .returned (.tuple #[r, .int .i64 0]) ∧ w'.ownsRow w.heap.size 5 1 r (cat [] 0).length ((cat [] 0).map (Value.int .u8)) ∧ Below w.heap.size w w' := by
  have P0 := implPutVar 0 w ht (by decide) (by decide)
  have e1 : cat [] 0 = putv 0 := by unfold cat; simp
  have e2 : (vsize 0).toNat = (putv 0).length := (putv_length 0).symm
  rw [e2] at P0
  rw [e1]
  generalize putv 0 = ys at P0 ⊢
  clear e1 e2
  go_enter Tryd.func12, Tryd.ntmps12
  go_wp2_with (go_at_call 25; refine P0.mono ?_; rintro e w1 ⟨r, rfl, hown0, hb0⟩)
  refine wp_loop_rounds 1 ?_
  rw [rounds_succ]
  go_wp2
  go_ret2
  exact ⟨_, rfl, hown0, hb0⟩

theorem implPutVars (v : Value) (xs : List Int) (w : World) (ht : Tab w) (hrow : Row w .i64 v xs) (hm : xs.length ≤ 9223372036854775807) :
    Calls Tryd.prog 12 #[v] w fun e w' => ∃ r, e = .returned (.tuple #[r, .int .i64 (pcode xs)]) ∧ w'.ownsRow w.heap.size 5 1 r (plist xs).length ((plist xs).map (Value.int .u8)) ∧ Below w.heap.size w w' := by
  by_cases h : 4096 < xs.length
  · obtain ⟨ao, cap, rfl⟩ := hrow.form
    rw [(p_long xs h).1, (p_long xs h).2]
    exact implPVs_long ao _ cap w h hm
  · by_cases h0 : 0 < xs.length
    · obtain ⟨b, off, cap, rfl, hb, hc⟩ := hrow.at h0
      rcases first_bad (fun j => okv (xs.getD j 0)) xs.length with ha | ⟨q, hq, h1, h2⟩
      · rw [(p_ok xs (by omega) ha).1, (p_ok xs (by omega) ha).2]
        exact implPVs_ok xs.length xs b off cap w ht (by omega) rfl hb ha hc
      · have hn : ¬ allok xs := fun ha => h2 (ha q hq)
        rw [(p_no xs (by omega) hn).1, (p_no xs (by omega) hn).2]
        exact implPVs_no xs.length xs b off cap w ht (by omega) rfl hb q hq h1 h2 hc
    · obtain rfl : xs = [] := List.eq_nil_of_length_eq_zero (by omega)
      obtain ⟨ao, cap, rfl⟩ := hrow.form
      have ha : allok [] := fun j hj => by simp at hj
      rw [(p_ok [] (by simp) ha).1, (p_ok [] (by simp) ha).2]
      exact implPVs_nil ao cap w ht
end Go.Proofs.YtkjfpgdnhdnceahDoor
