import Derived.Test.YtgkljhkmigapmaaNsB
namespace Go.Proofs.Ytgkljhkmigapmaa
open Go.RowKit
set_option linter.unusedVariables false

set_option maxHeartbeats 4000000 in
theorem nextWI (v : Value) (L : List SWaiting) (w : World) (h : GRow 4 w v (SWaiting.L L)) (hR : L.length ≤ 1048576) :
    Calls Try.prog 5 #[v] w fun e w' => e = .returned (.int .i64 (nxV L)) ∧ Below w.heap.size w w' := by
  obtain ⟨N, eN⟩ : ∃ N, N = nxV L := ⟨_, rfl⟩
  rw [← eN]
  obtain ⟨ao, cp, rfl⟩ := wrow_form h
  obtain ⟨n, en⟩ : ∃ n, n = L.length := ⟨_, rfl⟩
  unfold nxV at eN
  rw [← en] at eN hR ⊢
  rw [← en] at h
  by_cases h0 : n = 0
  · rw [if_pos (Or.inl h0)] at eN
    rw [eN, h0]
    clear h hR en eN h0
    go_enter Try.func5, Try.ntmps5
    go_wp2
    go_ret
    exact ⟨rfl, Below.refl _ _⟩
  by_cases h1 : 4096 < n
  · rw [if_pos (Or.inr h1)] at eN
    rw [eN]
    have h2 : ((n : Int) == 0) = false := by have : ¬ ((n : Int) = 0) := by omega
                                             simp [h0]
    have h3 : (4096 : Int) < n := by omega
    clear h en eN
    go_enter Try.func5, Try.ntmps5
    go_wp2
    go_ret
    exact ⟨rfl, Below.refl _ _⟩
  rw [if_neg (by omega)] at eN
  obtain ⟨b, off, cap, ev, hbl, hc⟩ := h.at' (by rw [List.length_map]; omega)
  rw [List.length_map, ← en] at ev
  simp only [Value.slice.injEq] at ev
  obtain ⟨rfl, em2, rfl⟩ := ev
  clear em2
  have HC : Hid (∀ u, Below w.heap.size w u → ∀ j, j < n → u.cell? ⟨b, off + j * 4, none⟩ = some (.int .i64 (L.getD j default).f0) ∧ u.cell? ⟨b, off + j * 4 + 1, none⟩ = some (.int .i64 (L.getD j default).f1) ∧ u.cell? ⟨b, off + j * 4 + 2, none⟩ = some (.int .i64 (L.getD j default).f2) ∧ u.cell? ⟨b, off + j * 4 + 3, none⟩ = some (.bool (L.getD j default).f3)) := by
    intro u hu j hj
    have q := hc j (by rw [List.length_map]; omega)
    rw [SWaiting.at L j (by omega)] at q
    exact ⟨(hu.cell (p := ⟨b, off + (j * 4 + 0), none⟩) hbl).trans (q 0 (by omega)), (hu.cell (p := ⟨b, off + (j * 4 + 1), none⟩) hbl).trans (q 1 (by omega)), (hu.cell (p := ⟨b, off + (j * 4 + 2), none⟩) hbl).trans (q 2 (by omega)), (hu.cell (p := ⟨b, off + (j * 4 + 3), none⟩) hbl).trans (q 3 (by omega))⟩
  have HN : Hid _ := And.intro eN en
  clear h hc eN en
  have h2 : ((n : Int) == 0) = false := by have : ¬ ((n : Int) = 0) := by omega
                                           simp [h0]
  have h3 : ¬ ((4096 : Int) < n) := by omega
  go_enter Try.func5, Try.ntmps5
  go_wp2_with fail
  go_loopw [3, 16] (fun x i wr => ∃ k : Nat, k ≤ n ∧ i = .int .i64 (k : Int) ∧ x = .int .i64 (nxt L k : Int) ∧ Below w.heap.size w wr) (fun _ i _ => n - (intOf i).toNat)
  case atStart => exact ⟨0, by omega, rfl, rfl, Below.refl _ _⟩
  case round =>
    obtain ⟨k, hk, rfl, rfl, bw⟩ := hrel
    have hlx := nxt_lt L k
    have hsx : nxt L (k + 1) = if ahd (L.getD k default) (L.getD (nxt L k) default) then k else nxt L k := rfl
    obtain ⟨x, ex⟩ : ∃ x, x = nxt L k := ⟨_, rfl⟩
    rw [← ex] at hlx hsx ⊢
    by_cases hlt : k < n
    · obtain ⟨c0, c1, c2, c3⟩ := HC.out wr bw k hlt
      have hxn : x < n := by
        by_cases h : k = 0
        · subst h; rw [ex]; simp only [nxt]; omega
        · have := hlx (by omega); omega
      have bd : Below w.heap.size w (wr.alloc (.cells #[.int .i64 (L.getD k default).f0, .int .i64 (L.getD k default).f1, .int .i64 (L.getD k default).f2, .bool (L.getD k default).f3] 27)).drew := below_drewN (bw.alloc (by have := bw.size; omega) _) 1
      obtain ⟨d0, d1, d2, d3⟩ := HC.out _ bd x hxn
      have CA := aheadI (L.getD k default) (L.getD x default) (wr.alloc (.cells #[.int .i64 (L.getD k default).f0, .int .i64 (L.getD k default).f1, .int .i64 (L.getD k default).f2, .bool (L.getD k default).f3] 27)).drew
      obtain ⟨D, eD⟩ : ∃ D, D = ahd (L.getD k default) (L.getD x default) := ⟨_, rfl⟩
      rw [← eD] at hsx CA
      unfold wtV at CA
      generalize L.getD k default = P at *
      (try generalize L.getD x default = Q at *)
      obtain ⟨p0, p1, p2, p3⟩ := P
      obtain ⟨q0, q1, q2, q3⟩ := Q
      simp only at c0 c1 c2 c3 d0 d1 d2 d3 CA
      have H4 : Hid _ := And.intro CA (And.intro bd hsx)
      clear bd hsx CA eD ex hlx
      go_upto_region 7 with fail
      go_cut [26] from 17 to 28 (fun cv wx => cv = .bool D ∧ Below w.heap.size w wx)
      case first =>
        go_region_with (go_at_call 11; refine H4.out.1.mono ?_; rintro e wz ⟨rfl, hz⟩)
        all_goals (go_wp2_with fail; go_meet; exact ⟨rfl, H4.out.2.1.trans (hz.mono H4.out.2.1.size)⟩)
      case rest =>
      obtain ⟨rfl, bc⟩ := hcut
      have H5 : Hid _ := And.intro bc H4.out.2.2
      clear bc bw c0 d0 c1 d1 c2 d2 c3 d3
      cases D
      · go_wp2
        go_roundw
        case rel => exact ⟨k + 1, by omega, by go_num, by rw [H5.out.2]; rfl, H5.out.1⟩
        case measure => simp [intOf]; omega
      · go_wp2
        go_roundw
        case rel => exact ⟨k + 1, by omega, by go_num, by rw [H5.out.2]; rfl, H5.out.1⟩
        case measure => simp [intOf]; omega
    · obtain rfl : k = n := by omega
      have H4 : Hid _ := And.intro bw ex
      clear bw hsx ex
      go_wp2
      go_ret
      exact ⟨by rw [HN.out.1, ← H4.out.2]; rfl, H4.out.1⟩
end Go.Proofs.Ytgkljhkmigapmaa
