import Derived.Test.YtdjflbanbhhniaaDoorLnC
import Derived.Deep.LoopGhost
namespace Go.Proofs.YtdjflbanbhhniaaDoor
open Go.RowKit
set_option linter.unusedVariables false

theorem spl_no (s : ByteArray) (most lo hi : Int) (h : inR s lo hi s.size = false) : spl s most lo hi = false := by unfold spl; rw [h]; simp
theorem spl_short (s : ByteArray) (most lo hi : Int) (h : s.size < 1 ∨ most < s.size) : spl s most lo hi = false := by
  unfold spl
  rw [show decide (1 ≤ s.size ∧ (s.size : Int) ≤ most) = false by rw [decide_eq_false_iff_not]; omega]
  rfl
set_option maxHeartbeats 4000000 in
theorem lenS (v : Value) (L : List SField) (w : World) (h : GRow 2 w v (SField.L L)) (hR : L.length ≤ 1048576) (hf : fin L) :
    Calls Tryd.prog 44 #[v] w fun e w' => e = .returned (.tuple #[.int .i64 (lnV L), .int .i64 (lnC L)]) ∧ w' = w := by
  obtain ⟨ao, cp, rfl⟩ := frow_form h
  obtain ⟨V, eV⟩ : ∃ V, V = lnV L := ⟨_, rfl⟩
  obtain ⟨C, eC⟩ : ∃ C, C = lnC L := ⟨_, rfl⟩
  rw [← eV, ← eC]
  unfold lnV at eV
  unfold lnC at eC
  obtain ⟨n, en⟩ : ∃ n, n = L.length := ⟨_, rfl⟩
  rw [← en] at eV eC hR ⊢
  rw [← en] at h
  by_cases h1 : 64 < n
  · rw [if_pos h1] at eV eC
    have h3 : (64 : Int) < n := by omega
    rw [eV, eC]
    clear h en eV eC hf
    go_enter Tryd.func44, Tryd.ntmps44
    go_wp2
    (try simp only [Exit.inBlock, Exit.then])
    refine bodyPost_ret (results_tmp2 rfl _ _ _) rfl ?_
    exact ⟨rfl, rfl⟩
  rw [if_neg h1] at eV eC
  have h3 : ¬ ((64 : Int) < n) := by omega
  have HH : Hid _ := And.intro h (And.intro en (And.intro eV (And.intro eC hf)))
  clear h en eV eC hf
  go_enter Tryd.func44, Tryd.ntmps44
  go_wp2_with fail
  go_loopg [4, 5] n (fun q a i wr => ∃ (k : Nat) (o : Int), k ≤ n ∧ q = n - k ∧ i = .int .i64 (k : Int) ∧ a = .int .i64 o ∧ lnF L k = some o ∧ wr = w)
  case atStart => exact ⟨0, -1, by omega, by omega, rfl, rfl, rfl, rfl⟩
  case round =>
    obtain ⟨k, o, hk, rfl, rfl, rfl, ho, rfl⟩ := hrel
    have hob := lnF_bd L k o ho
    by_cases hlt : k < n
    · have hkL : k < L.length := by rw [← HH.out.2.1]; exact hlt
      obtain ⟨b, off, cap, ev, hb, hc⟩ := frow_at HH.out.1 (by omega)
      rw [← HH.out.2.1] at ev
      simp only [Value.slice.injEq] at ev
      obtain ⟨rfl, em2, rfl⟩ := ev
      clear em2
      obtain ⟨c0, c1⟩ := row_field hc k hkL
      have hsu : lnF L (k + 1) = if (L.getD k default).f0 == clN then (if 0 ≤ o ∨ spl (L.getD k default).f1 9 48 57 = false then none else some (dv (L.getD k default).f1 (L.getD k default).f1.size)) else some o := by simp only [lnF, ho]
      have hfc := (HH.out.2.2.2.2 k hkL).2
      obtain ⟨F, eF⟩ : ∃ F, F = L.getD k default := ⟨_, rfl⟩
      rw [← eF] at hsu c0 c1 hfc
      obtain ⟨a, c⟩ := F
      simp only at c0 c1 hsu hfc
      cases hn : (a == clN) with
      | false =>
        have hne : (a != clN) = true := bne_of_beq hn
        have hnt : (a.toList == clL) = false := tl_lit a _ _ hn
        unfold clN at hne
        unfold clL at hnt
        rw [hn] at hsu
        simp only [Bool.false_eq_true, if_false] at hsu
        have HR : Hid _ := And.intro hsu True.intro
        clear hsu eF hc hn ho
        go_wp2
        go_roundg (n - (k + 1))
        case measure => omega
        case rel => exact ⟨k + 1, o, by omega, rfl, by go_num, rfl, HR.out.1, rfl⟩
      | true =>
        have hne : (a != clN) = false := bne_of_beq hn
        have hnt : (a.toList == clL) = true := tl_lit a _ _ hn
        unfold clN at hne
        unfold clL at hnt
        rw [hn] at hsu
        simp only [if_true] at hsu
        have fail17 : lnF L (k + 1) = none → V = 0 ∧ C = 17 := fun hno => by
          have hN := lnF_none L (k + 1) n (by omega) hno
          obtain ⟨-, -, q1, q2, -⟩ := HH.out
          rw [hN] at q1 q2
          exact ⟨q1, q2⟩
        clear eF hc hn ho
        by_cases o0 : 0 ≤ o
        · have HF : Hid _ := And.intro (fail17 (by rw [hsu, if_pos (Or.inl o0)])) True.intro
          clear hsu fail17
          go_wp2
          (try simp only [Exit.inBlock, Exit.then])
          refine bodyPost_ret (results_tmp2 rfl _ _ _) rfl ?_
          exact ⟨by rw [HF.out.1.1, HF.out.1.2]; rfl, rfl⟩
        by_cases s0 : c.size < 1
        · have HF : Hid _ := And.intro (fail17 (by rw [hsu, if_pos (Or.inr (spl_short _ _ _ _ (Or.inl s0)))])) True.intro
          have s1 : c.size = 0 := by omega
          clear hsu fail17 s0
          go_wp2
          (try simp only [Exit.inBlock, Exit.then])
          refine bodyPost_ret (results_tmp2 rfl _ _ _) rfl ?_
          exact ⟨by rw [HF.out.1.1, HF.out.1.2]; rfl, rfl⟩
        by_cases s9 : 9 < c.size
        · have HF : Hid _ := And.intro (fail17 (by rw [hsu, if_pos (Or.inr (spl_short _ _ _ _ (Or.inr (by omega))))])) True.intro
          clear hsu fail17
          go_wp2
          (try simp only [Exit.inBlock, Exit.then])
          refine bodyPost_ret (results_tmp2 rfl _ _ _) rfl ?_
          exact ⟨by rw [HF.out.1.1, HF.out.1.2]; rfl, rfl⟩
        have HS : Hid _ := And.intro hsu fail17
        clear hsu fail17
        go_wp2_with fail
        go_loopg [4, 7] c.size (fun q a i wr' => ∃ (j : Nat), j ≤ c.size ∧ q = c.size - j ∧ i = .int .i64 (j : Int) ∧ a = .int .i64 (dv c j) ∧ inR c 48 57 j = true ∧ wr' = wr)
        case atStart => exact ⟨0, by omega, by omega, rfl, rfl, rfl, rfl⟩
        case round =>
          obtain ⟨j, hj, rfl, rfl, rfl, hin, rfl⟩ := hrel
          have b0 := dv_nn c j hin
          have b1 := dv_bd c j hin (by omega)
          by_cases hlt2 : j < c.size
          · have hix := ixC c j hlt2
            have hno := inR_no c 48 57 c.size j hlt2
            have hsu2 := inR_succ c 48 57 j
            have hds : dv c (j + 1) = 10 * dv c j + (bt c j - 48) := rfl
            have hbx := bt_bd c j
            obtain ⟨x, ex⟩ : ∃ x, x = bt c j := ⟨_, rfl⟩
            obtain ⟨D, eD⟩ : ∃ D, D = dv c j := ⟨_, rfl⟩
            rw [← ex] at hix hno hsu2 hds hbx
            rw [← eD] at b0 b1 hds ⊢
            obtain ⟨y0, y1⟩ := hbx
            by_cases q1 : x < 48
            · have HF : Hid _ := And.intro (HS.out.2 (by rw [HS.out.1, if_pos (Or.inr (spl_no _ _ _ _ (hno (by omega))))])) True.intro
              clear hno hsu2 hds ex eD hin
              go_wp2
              (try simp only [Exit.inBlock, Exit.then])
              refine bodyPost_ret (results_tmp2 rfl _ _ _) rfl ?_
              exact ⟨by rw [HF.out.1.1, HF.out.1.2]; rfl, rfl⟩
            by_cases q2 : 57 < x
            · have HF : Hid _ := And.intro (HS.out.2 (by rw [HS.out.1, if_pos (Or.inr (spl_no _ _ _ _ (hno (by omega))))])) True.intro
              clear hno hsu2 hds ex eD hin
              go_wp2
              (try simp only [Exit.inBlock, Exit.then])
              refine bodyPost_ret (results_tmp2 rfl _ _ _) rfl ?_
              exact ⟨by rw [HF.out.1.1, HF.out.1.2]; rfl, rfl⟩
            have HR : Hid (inR c 48 57 (j + 1) = true ∧ dv c (j + 1) = 10 * D + (x - 48)) := ⟨by rw [hsu2, hin]; simp; omega, hds⟩
            clear hno hsu2 hds ex eD hin
            go_wp2
            go_roundg (c.size - (j + 1))
            case measure => omega
            case rel => exact ⟨j + 1, by omega, rfl, by go_num, by rw [HR.out.2], HR.out.1, rfl⟩
          · obtain rfl : j = c.size := by omega
            have hsp : spl c 9 48 57 = true := by unfold spl; rw [hin]; simp; omega
            have HR : Hid (lnF L (k + 1) = some (dv c c.size)) := by show _ = _; rw [HS.out.1, if_neg (by rw [hsp]; first | (simp; done) | (simp; omega))]
            clear hin hsp
            go_wp2
            go_roundg (n - (k + 1))
            case measure => omega
            case rel => exact ⟨k + 1, dv c c.size, by omega, rfl, by go_num, rfl, HR.out, rfl⟩
    · obtain rfl : k = n := by omega
      have HF : Hid (V = o ∧ C = 0) := by
        obtain ⟨-, -, q1, q2, -⟩ := HH.out
        rw [ho] at q1 q2
        exact ⟨q1, q2⟩
      clear ho
      go_wp2
      (try simp only [Exit.inBlock, Exit.then])
      refine bodyPost_ret (results_tmp2 rfl _ _ _) rfl ?_
      exact ⟨by rw [HF.out.1, HF.out.2]; rfl, rfl⟩
end Go.Proofs.YtdjflbanbhhniaaDoor
