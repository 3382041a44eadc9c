import Derived.Test.YtkjfpgdnhdnceahDoorGetVarsI
namespace Go.Proofs.YtkjfpgdnhdnceahDoor
open Go.RowKit
set_option linter.unusedVariables false

theorem be_bytes (v : Int) (n : Nat) : Bytes (be v n) := by
  induction n generalizing v with
  | zero => intro x hx; simp [be] at hx
  | succ n ih =>
    intro x hx
    unfold be at hx
    rcases List.mem_append.1 hx with h | h
    · exact ih _ x h
    · simp at h; omega
theorem put_head (v : Int) (h : okv v) : 0 ≤ (putv v).getD 0 0 ∧ (putv v).getD 0 0 < 256 := by
  rcases range_of v h with r | r | r | r
  · exact (head_form_1 v r.1 r.2).2
  · exact (head_form_2 v r.1 r.2).2
  · exact (head_form_4 v r.1 r.2).2
  · exact (head_form_8 v r.1 r.2).2
theorem putv_bytes (v : Int) (h : okv v) : Bytes (putv v) := by
  have hh := put_head v h
  have hb := vsize_bd v h
  intro x hx
  have e : (putv v).getD 0 0 = (be v (vsize v).toNat).getD 0 0 + 64 * sform v := by
    unfold putv; rw [set_head _ _ (by rw [be_length]; omega)]
  unfold putv at hx
  rcases List.mem_or_eq_of_mem_set hx with h1 | h1
  · exact be_bytes _ _ x h1
  · rw [← e] at h1; rw [h1]; exact hh
theorem cat_bytes (ns : List Int) (k : Nat) (hn : okv ns.length) (h : ∀ x ∈ ns, okv x) : Bytes (cat ns k) := by
  intro x hx
  unfold cat at hx
  rcases List.mem_append.1 hx with h1 | h1
  · exact putv_bytes _ hn x h1
  · obtain ⟨y, hy, hxy⟩ := List.mem_flatMap.1 h1
    exact putv_bytes y (h y (List.mem_of_mem_take hy)) x hxy
theorem nums_ok (xs : List Int) (n : Nat) : ∀ x ∈ nums xs n, okv x := by
  intro x hx
  obtain ⟨k, _, rfl⟩ := List.mem_map.1 hx
  exact num_bd xs k
theorem nums_all (xs : List Int) (n : Nat) : allok (nums xs n) := by
  intro j hj
  rw [nums_length] at hj
  rw [nums_at xs n j hj]
  exact num_bd xs j

theorem implGetVars (v : Value) (xs : List Int) (w : World) (ht : Tab w) (hrow : Row w .u8 v xs) (hB : Bytes xs) (hm : xs.length ≤ 9223372036854775807) :
    Calls Tryd.prog 18 #[v] w fun e w' => ∃ r, e = .returned (.tuple #[r, .int .i64 (gcode xs)]) ∧ w'.ownsRow w.heap.size 3 1 r (glist xs).length ((glist xs).map (Value.int .i64)) ∧ Below w.heap.size w w' := by
  by_cases h16 : 65536 < xs.length
  · obtain ⟨ao, cap, rfl⟩ := hrow.form
    rw [(g_long xs h16).1, (g_long xs h16).2]
    refine (implGVs_long ao _ cap w h16 hm).mono ?_
    rintro e w' ⟨rfl, rfl⟩
    exact ⟨_, rfl, World.ownsRow_nil _ _ _ _, Below.refl _ _⟩
  · have hl : xs.length ≤ 65536 := by omega
    have G0 := getShort v xs 0 w ht hrow hB hm (by decide)
    by_cases hh : short xs 0 = true ∧ cnt xs ≤ 4096
    · obtain ⟨hs0, hc⟩ := hh
      have hG : ∀ (k : Nat) (wr : World), Below w.heap.size w wr → Calls Tryd.prog 26 #[v, .int .i64 (pos xs k)] wr fun e w' => e = .returned (.tuple #[.int .i64 (num xs k), .int .i64 (pos xs (k + 1)), .bool (short xs (pos xs k))]) ∧ w' = wr :=
        fun k wr hb => getShort v xs (pos xs k) wr (ht.below hb ht.lt) (hrow.below hb) hB hm (pos_bd xs k)
      rw [hs0, ← cnt_eq xs] at G0
      obtain ⟨ao, cap, rfl⟩ := hrow.form
      have fin : ∀ q, q ≤ cnt xs → (∀ k, k < q → short xs (pos xs k) = true) → (q < cnt xs → short xs (pos xs q) = false) →
          Calls Tryd.prog 18 #[.slice ao xs.length cap] w fun e w' => ∃ r, e = .returned (.tuple #[r, .int .i64 (gcode xs)]) ∧ w'.ownsRow w.heap.size 3 1 r (glist xs).length ((glist xs).map (Value.int .i64)) ∧ Below w.heap.size w w' := by
        intro q hq h1 h2
        refine (implGVs_loop ao xs.length cap (cnt xs) q (pos xs) (num xs) (fun k => short xs (pos xs k)) w hl hc hq (pos_bd xs) G0 hG h1 h2).mono ?_
        rintro e w' ⟨r, hb, ⟨hqc, hp, rfl, zs, hz, hzz, ho⟩ | ⟨hn, rfl⟩⟩
        · subst hqc
          have hg : goodI xs := ⟨hs0, hc, h1, hp⟩
          rw [(g_ok xs hl hg).1, (g_ok xs hl hg).2]
          have e1 : zs = nums xs (cnt xs) := list_eq_of_getD hz (nums_length _ _) (fun j hj => by rw [hzz j hj, nums_at xs _ j hj])
          subst e1
          exact ⟨r, rfl, by rw [nums_length]; exact ho, hb⟩
        · have hg : ¬ goodI xs := by
            rintro ⟨_, _, h3, h4⟩
            by_cases hqc : q < cnt xs
            · have := h2 hqc
              rw [h3 q hqc] at this
              cases this
            · have : q = cnt xs := by omega
              exact hn ⟨this, h4⟩
          rw [(g_no xs hl hg).1, (g_no xs hl hg).2]
          exact ⟨_, rfl, World.ownsRow_nil _ _ _ _, hb⟩
      rcases first_bad (fun k => short xs (pos xs k) = true) (cnt xs) with ha | ⟨q, hq, h1, h2⟩
      · exact fin (cnt xs) (Nat.le_refl _) ha (fun h => by omega)
      · exact fin q (by omega) h1 (fun _ => by simpa using h2)
    · have hg : ¬ goodI xs := fun h => hh ⟨h.1, h.2.1⟩
      rw [(g_no xs hl hg).1, (g_no xs hl hg).2]
      obtain ⟨ao, cap, rfl⟩ := hrow.form
      have hd : short xs 0 = false ∨ 4096 < (gv xs 0).1 := by
        by_cases hs : short xs 0 = true
        · right
          have := cnt_eq xs
          have : ¬ cnt xs ≤ 4096 := fun h => hh ⟨hs, h⟩
          omega
        · left; simpa using hs
      refine (implGVs_head ao _ cap _ _ _ w hl (gv_num xs 0 (by decide)) G0 hd).mono ?_
      rintro e w' ⟨rfl, rfl⟩
      exact ⟨_, rfl, World.ownsRow_nil _ _ _ _, Below.refl _ _⟩

end Go.Proofs.YtkjfpgdnhdnceahDoor
