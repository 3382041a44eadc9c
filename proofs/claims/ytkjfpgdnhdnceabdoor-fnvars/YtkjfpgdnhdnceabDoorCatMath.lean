import Derived.Test.YtkjfpgdnhdnceabDoorGVSeq
namespace Go.Proofs.YtkjfpgdnhdnceabDoor
open Go.RowKit
set_option linter.unusedVariables false

theorem cat_split (M : List Int) (k : Nat) (h : k ≤ M.length) : cat M M.length = cat M k ++ (M.drop k).flatMap putv := by
  unfold cat
  rw [List.take_length, List.append_assoc, ← List.flatMap_append, List.take_append_drop]

theorem decode_prefix (M rest xs : List Int) (hok : allok M) (hM : M.length ≤ 4096) (hx : xs = cat M M.length ++ rest) (hl : xs.length ≤ 65536) :
    gv xs 0 = ((M.length : Int), vsize M.length, 0) ∧ (∀ k, k ≤ M.length → pos xs k = ((cat M k).length : Nat)) ∧ ∀ k, k < M.length → num xs k = M.getD k 0 ∧ short xs (pos xs k) = true := by
  have hc : okv (M.length : Int) := ⟨by omega, by omega⟩
  have h0 : xs = [] ++ (putv M.length ++ ((M.take M.length).flatMap putv ++ rest)) := by rw [hx]; unfold cat; simp
  have e0 : gv xs (0 : Nat) = ((M.length : Int), ((0 : Nat) : Int) + vsize M.length, 0) := gv_put xs 0 _ hc hl (drop_take_piece xs [] _ _ h0)
  have e0' : gv xs 0 = ((M.length : Int), vsize M.length, 0) := by
    have : ((0 : Nat) : Int) + vsize M.length = vsize M.length := by simp
    rw [this] at e0
    exact e0
  have hvb := (vsize_bd _ hc).1
  have step : ∀ k, k ≤ M.length → pos xs k = ((cat M k).length : Nat) ∧ ∀ j, j < k → num xs j = M.getD j 0 ∧ short xs (pos xs j) = true := by
    intro k
    induction k with
    | zero =>
      intro _
      refine ⟨?_, fun j hj => by omega⟩
      show (gv xs 0).2.1 = _
      rw [e0']
      unfold cat
      simp only [List.take_zero, List.flatMap_nil, List.append_nil, putv_length]
      omega
    | succ k ih =>
      intro hk
      obtain ⟨hp, hs⟩ := ih (by omega)
      have hv := hok k (by omega)
      have hvb := (vsize_bd _ hv).1
      have hd : M.drop k = M.getD k 0 :: M.drop (k + 1) := by
        rw [List.drop_eq_getElem_cons (show k < M.length by omega)]
        have : M.getD k 0 = M[k] := by simp [List.getD, show k < M.length by omega]
        rw [this]
      have hxx : xs = cat M k ++ (putv (M.getD k 0) ++ ((M.drop (k + 1)).flatMap putv ++ rest)) := by
        rw [hx, cat_split M k (by omega), hd, List.flatMap_cons]
        simp [List.append_assoc]
      have hg : gv xs ((cat M k).length : Nat) = (M.getD k 0, (((cat M k).length : Nat) : Int) + vsize (M.getD k 0), 0) := gv_put xs _ _ hv hl (drop_take_piece xs (cat M k) _ _ hxx)
      refine ⟨?_, fun j hj => ?_⟩
      · show (gv xs (pos xs k)).2.1 = _
        rw [hp, hg, cat_succ M k (by omega), List.length_append, putv_length]
        show (((cat M k).length : Nat) : Int) + vsize (M.getD k 0) = _
        omega
      · by_cases e : j = k
        · subst e
          refine ⟨?_, ?_⟩
          · unfold num; rw [hp, hg]
          · unfold short
            rw [hp, hg]
            simp
            omega
        · exact hs j (by omega)
  exact ⟨e0', fun k hk => (step k hk).1, fun k hk => (step M.length (Nat.le_refl _)).2 k hk⟩

theorem dec_cnt (M rest xs : List Int) (hok : allok M) (hM : M.length ≤ 4096) (hx : xs = cat M M.length ++ rest) (hl : xs.length ≤ 65536) : cnt xs = M.length := by
  unfold cnt
  rw [(decode_prefix M rest xs hok hM hx hl).1]
  exact Int.toNat_natCast _

theorem dec_good (L : List Int) (hok : allok L) (hL : L.length ≤ 4096) (hl : (cat L L.length).length ≤ 65536) : gcode (cat L L.length) = 0 ∧ glist (cat L L.length) = L := by
  have hx : cat L L.length = cat L L.length ++ [] := by simp
  obtain ⟨h1, h2, h3⟩ := decode_prefix L [] _ hok hL hx hl
  have hc := dec_cnt L [] _ hok hL hx hl
  have hvb := (vsize_bd (L.length : Int) ⟨by omega, by omega⟩).1
  have hg : goodI (cat L L.length) := by
    refine ⟨?_, by rw [hc]; exact hL, fun k hk => (h3 k (by rw [← hc]; exact hk)).2, ?_⟩
    · unfold short
      rw [h1]
      simp
    · rw [hc]
      exact h2 L.length (Nat.le_refl _)
  have e := g_ok _ hl hg
  refine ⟨e.1, ?_⟩
  rw [e.2, hc]
  exact list_eq_of_getD (nums_length _ _) rfl (fun j hj => by rw [nums_at _ _ j hj]; exact (h3 j hj).1)

theorem dec_much (L : List Int) (z : Int) (hok : allok L) (hL : L.length ≤ 4096) (hl : (cat L L.length).length < 65536) : gcode (cat L L.length ++ [z]) = 3 := by
  have hlen : (cat L L.length ++ [z]).length ≤ 65536 := by rw [List.length_append]; simp; omega
  have h2 := (decode_prefix L [z] _ hok hL rfl hlen).2.1
  have hc := dec_cnt L [z] _ hok hL rfl hlen
  refine (g_no _ hlen ?_).1
  rintro ⟨_, _, _, h4⟩
  rw [hc, h2 L.length (Nat.le_refl _), List.length_append] at h4
  simp at h4
  omega

theorem dec_less (L : List Int) (hok : allok L) (hL : L.length ≤ 4096) (hl : (cat L L.length).length ≤ 65536) (hB : Bytes (cat L L.length)) (hn : 0 < (cat L L.length).length) :
    gcode ((cat L L.length).take ((cat L L.length).length - 1)) = 3 := by
  generalize hxs : cat L L.length = xs at *
  have hlen : (xs.take (xs.length - 1)).length = xs.length - 1 := by rw [List.length_take]; omega
  refine (g_no _ (by rw [hlen]; omega) ?_).1
  intro hg
  have hgs := goodS_of_goodI _ (hB.take _) hg
  obtain ⟨h1, h2, h3, h4⟩ := hgs
  -- the numbers that were read make the row with one byte less
  have hMl := nums_length (xs.take (xs.length - 1)) (cnt (xs.take (xs.length - 1)))
  have hMok : allok (nums (xs.take (xs.length - 1)) (cnt (xs.take (xs.length - 1)))) := by
    intro j hj
    rw [hMl] at hj
    rw [nums_at _ _ j hj]
    exact num_bd _ j
  generalize hMd : nums (xs.take (xs.length - 1)) (cnt (xs.take (xs.length - 1))) = M at h4 hMl hMok
  rw [← hMl] at h4
  have hx2 : xs = cat M M.length ++ xs.drop (xs.length - 1) := by
    rw [h4, List.take_append_drop]
  have p1 := (decode_prefix L [] xs hok hL (by rw [hxs]; simp) hl).2.1 L.length (Nat.le_refl _)
  have c1 := dec_cnt L [] xs hok hL (by rw [hxs]; simp) hl
  have p2 := (decode_prefix M _ xs hMok (by rw [hMl]; exact h2) hx2 hl).2.1 M.length (Nat.le_refl _)
  have c2 := dec_cnt M _ xs hMok (by rw [hMl]; exact h2) hx2 hl
  have e : L.length = M.length := by omega
  rw [← e] at p2
  rw [p2] at p1
  have e1 : (cat L L.length).length = xs.length := by rw [hxs]
  have e2 : (cat M M.length).length = xs.length - 1 := by rw [h4, hlen]
  rw [← e] at e2
  rw [e1] at p1
  have : (cat M L.length).length = xs.length := by exact_mod_cast p1
  omega

theorem gv_one (v : Int) (h : okv v) : gv (putv v) 0 = (v, vsize v, 0) := by
  have hvb := vsize_bd v h
  have hl := putv_length v
  have := gv_put (putv v) 0 v h (by rw [hl]; omega) (by rw [List.drop_zero, ← hl, List.take_length])
  have e : ((0 : Nat) : Int) + vsize v = vsize v := by simp
  rw [e] at this
  exact this
end Go.Proofs.YtkjfpgdnhdnceabDoor
