import Derived.Test.YtdommkpeilmdnaaDoorHyA
namespace Go.Proofs.YtdommkpeilmdnaaDoor
open Go.RowKit
set_option linter.unusedVariables false

theorem infoIntH : (Tryd.prog.info? 3).map (fun i => (i.zero, i.size, i.bytes)) = some (some (.int .i64 0), 1, 8) := by kernel_rfl
theorem row_ofH {w : World} {base g : Nat} {xs : List Int} (h : w.ownsRow base 3 1 (.slice (some ⟨g, 0, none⟩) xs.length xs.length) xs.length (xs.map (Value.int .i64))) : Row w .i64 (.slice (some ⟨g, 0, none⟩) xs.length xs.length) xs := by
  exact row_of_owns h
theorem map_f0 (L : List SSetting) (k : Nat) (h : k < L.length) : (L.map SSetting.f0).getD k 0 = (L.getD k default).f0 := by
  simp [List.getD, List.getElem?_map, List.getElem?_eq_getElem h]
set_option maxRecDepth 20000 in
set_option maxHeartbeats 4000000 in
/-- The program's validSettings. -/
theorem setI (v : Value) (L : List SSetting) (w : World) (hr : GRow 2 w v (SSetting.L L)) (hl : L.length ≤ 4096) :
    Calls Tryd.prog 21 #[v] w fun e w' => e = .returned (.bool (decide (sdP L))) ∧ Below w.heap.size w w' := by
  obtain ⟨ao, ca, rfl⟩ := srow_form hr
  obtain ⟨i0, hi, hz0, hz1, hz2⟩ := info_parts infoIntH
  obtain ⟨R, eR⟩ : ∃ R, R = decide (sdP L) := ⟨_, rfl⟩
  rw [← eR]
  obtain ⟨n, en⟩ : ∃ n, n = L.length := ⟨_, rfl⟩
  rw [← en] at hl hr ⊢
  have H0 : Hid _ := And.intro eR (And.intro en (fun k hk => srow_at hr en k hk))
  clear eR en hr
  go_enter Tryd.func21, Tryd.ntmps21
  go_wp2_with (at_make; refine wpList_make_full _ rfl _ _ 63 rfl w.heap.size 3 i0 (.int .i64 0) 1 Tryd.underlying63 hi hz0 hz1 .i64 .i64 (n : Int) (n : Int) n rfl rfl rfl rfl (by rw [hz2]; omega) (by unfold maxLen; omega) (Nat.le_refl _) ?_; intro w1 hown hg)
  have H1 : Hid _ := And.intro hown ((Below.refl w.heap.size w).grown hg (Nat.le_refl _) (by intro k hk; cases hk))
  clear hown hg
  go_loopg [11] n (fun q i wr => ∃ k : Nat, k ≤ n ∧ q = n - k ∧ i = .int .i64 (k : Int) ∧ ∃ zs : List Value, zs.length = n * 1 ∧ wr.ownsRow w.heap.size 3 1 (.slice (some ⟨w.heap.size, 0, none⟩) n n) n zs ∧ (∀ j, j < k → zs[j]? = some (.int .i64 (L.getD j default).f0)) ∧ Below w.heap.size w wr ∧ ∀ j, j < k → hin (L.getD j default).f0 = true ∧ hin (L.getD j default).f1 = true)
  case atStart => exact ⟨0, by omega, by omega, rfl, _, by have := H1.out.1.1; simpa using this, H1.out.1, fun j hj => by omega, H1.out.2, fun j hj => by omega⟩
  case round =>
    obtain ⟨k, hk, rfl, rfl, zs, hzl, ow, hu, hb, hall⟩ := hrel
    by_cases hlt : k < n
    · obtain ⟨b, off, rfl, hbl, cc⟩ := H0.out.2.2 k hlt
      obtain ⟨c0, c1⟩ := cc wr hb
      obtain ⟨x, ex⟩ : ∃ x, x = (L.getD k default).f0 := ⟨_, rfl⟩
      obtain ⟨y, ey⟩ : ∃ y, y = (L.getD k default).f1 := ⟨_, rfl⟩
      rw [← ex] at c0
      rw [← ey] at c1
      have bA : Below wr.heap.size wr (wr.alloc (.cells #[.int .i64 x, .int .i64 y] 62)) := (Below.refl _ _).alloc (Nat.le_refl _) _
      have V1 := hinI x (wr.alloc (.cells #[.int .i64 x, .int .i64 y] 62))
      have V2 := hinI y (wr.alloc (.cells #[.int .i64 x, .int .i64 y] 62))
      obtain ⟨p, ep⟩ : ∃ p, p = hin x := ⟨_, rfl⟩
      obtain ⟨q, eq⟩ : ∃ q, q = hin y := ⟨_, rfl⟩
      rw [← ep] at V1
      rw [← eq] at V2
      have ow2 := owns_below ow bA
      have hgl : w.heap.size < wr.heap.size := (ow.lt w.heap.size rfl).2
      have d0 : k < n * 1 := by omega
      have s0 : (wr.alloc (.cells #[.int .i64 x, .int .i64 y] 62)).cell? ⟨w.heap.size, k, none⟩ = zs[k]? := ow2.cellAt k d0
      obtain ⟨z0, hz0'⟩ : ∃ z, zs[k]? = some z := ⟨zs[k]'(by omega), by simp [hzl, hlt]⟩
      rw [hz0'] at s0
      have f0 := ow2.frozenAt k
      have HV : Hid _ := And.intro V1 (And.intro V2 (And.intro ep (And.intro eq (And.intro ex ey))))
      have HO : Hid _ := And.intro ow True.intro
      have HX : Hid _ := And.intro ow2 (And.intro hu (And.intro hb (And.intro hall (And.intro hzl (hb.trans (bA.mono hb.size))))))
      clear V1 V2 ep eq ex ey ow ow2 hu hb hall hzl bA cc hz0'
      have bad : ¬ (p = true ∧ q = true) → R = false := fun hbq => by
        rw [H0.out.1]
        refine decide_eq_false (fun s => hbq ?_)
        have t := (s k (by rw [← H0.out.2.1]; exact hlt)).1
        rw [← HV.out.2.2.2.2.1, ← HV.out.2.2.2.2.2, ← HV.out.2.2.1, ← HV.out.2.2.2.1] at t
        exact t
      cases p with
      | false =>
        have HR : Hid _ := And.intro (bad (by simp)) True.intro
        clear bad
        go_wp2_with (go_at_call 20; refine HV.out.1.mono ?_; rintro e w1 ⟨rfl, hw⟩; subst hw)
        go_ret
        exact ⟨by rw [HR.out.1]; rfl, HX.out.2.2.2.2.2⟩
      | true =>
        cases q with
        | false =>
          have HR : Hid _ := And.intro (bad (by simp)) True.intro
          clear bad
          go_wp2_with (go_at_call 20; first | (refine HV.out.1.mono ?_; rintro e w1 ⟨rfl, hw⟩; subst hw) | (refine HV.out.2.1.mono ?_; rintro e w1 ⟨rfl, hw⟩; subst hw))
          go_ret
          exact ⟨by rw [HR.out.1]; rfl, HX.out.2.2.2.2.2⟩
        | true =>
          clear bad
          go_wp2_with (go_at_call 20; first | (refine HV.out.1.mono ?_; rintro e w1 ⟨rfl, hw⟩; subst hw) | (refine HV.out.2.1.mono ?_; rintro e w1 ⟨rfl, hw⟩; subst hw))
          go_roundg (n - (k + 1))
          case measure => omega
          case rel =>
            refine ⟨k + 1, by omega, rfl, by go_num, zs.set k (.int .i64 x), by rw [List.length_set]; exact HX.out.2.2.2.2.1, owns_below (HO.out.1.stored k _).1 ((Below.refl _ _).alloc (Nat.le_refl _) _), fun j hj => ?_, (HX.out.2.2.1.setCell (Nat.le_refl _) _).alloc (by have := HX.out.2.2.1.size; simpa [World.setCell] using this) _, fun j hj => ?_⟩
            · by_cases hjk : j = k
              · subst hjk
                rw [List.getElem?_set_self (by have := HX.out.2.2.2.2.1; omega), HV.out.2.2.2.2.1]
              · rw [List.getElem?_set_ne (by omega)]
                exact HX.out.2.1 j (by omega)
            · by_cases hjk : j < k
              · exact HX.out.2.2.2.1 j hjk
              · obtain rfl : j = k := by omega
                rw [← HV.out.2.2.2.2.1, ← HV.out.2.2.2.2.2]
                exact ⟨HV.out.2.2.1.symm, HV.out.2.2.2.1.symm⟩
    · obtain rfl : k = n := by omega
      have ezs : zs = (L.map SSetting.f0).map (Value.int .i64) := by
        apply List.ext_getElem?
        intro j
        by_cases hj : j < k
        · rw [hu j hj, List.getElem?_map, List.getElem?_map, List.getElem?_eq_getElem (show j < L.length by have := H0.out.2.1; omega)]
          simp [List.getD, List.getElem?_eq_getElem (show j < L.length by have := H0.out.2.1; omega)]
        · rw [List.getElem?_eq_none (by omega), List.getElem?_eq_none (by simp; have := H0.out.2.1; omega)]
      subst ezs
      have hwf : ∀ m ∈ L.map SSetting.f0, (Lit.int .i64 m).wf = true := by
        intro m hm
        obtain ⟨j, hj, rfl⟩ := List.mem_iff_getElem.1 hm
        rw [List.length_map] at hj
        have h := (hall j (by have := H0.out.2.1; omega)).1
        rw [hin_iff] at h
        rw [List.getElem_map]
        have e2 : L.getD j default = L[j] := by simp [List.getD, List.getElem?_eq_getElem hj]
        rw [e2] at h
        have e1 : IntKind.i64.min = -9223372036854775808 := rfl
        have e3 : IntKind.i64.max = 9223372036854775807 := rfl
        simp [Lit.wf, e1, e3]
        omega
      have hlm : (L.map SSetting.f0).length = k := by rw [List.length_map]; exact H0.out.2.1.symm
      have S := setOfC (.slice (some ⟨w.heap.size, 0, none⟩) k k) (L.map SSetting.f0) wr (by rw [← hlm] at ow ⊢; exact row_ofH ow) (by omega) hwf
      have hRs : R = ((Maps.size (Sd (L.map SSetting.f0) (L.map SSetting.f0).length) : Int) == (k : Int)) := by
        rw [H0.out.1, Bool.eq_iff_iff, decide_eq_true_eq, beq_iff_eq]
        constructor
        · intro q
          have := (Sd_sizeZ (L.map SSetting.f0)).2 (fun i hi j hj => by
            rw [List.length_map] at hi
            rw [map_f0 L i hi, map_f0 L j (by omega)]
            exact (q i hi).2 j hj)
          omega
        · intro q i hi
          have t := (Sd_sizeZ (L.map SSetting.f0)).1 (by omega) i (by rw [List.length_map]; exact hi)
          refine ⟨hall i (by have := H0.out.2.1; omega), fun j hj => ?_⟩
          have := t j hj
          rw [map_f0 L i hi, map_f0 L j (by omega)] at this
          exact this
      have HS : Hid _ := And.intro S (And.intro hRs hb)
      obtain ⟨M, eM⟩ : ∃ M, M = (L.map SSetting.f0).length := ⟨_, rfl⟩
      clear S hRs hu hall ow hb hzl hwf hlm hz0 hz1 hz2 hi
      go_wp2_with (first
        | (go_at_call 40; refine HS.out.1.mono ?_; rintro e w1 ⟨rfl, o1, b1⟩; have HB : Hid _ := And.intro b1 True.intro; clear b1)
        | (at_len; refine wpList_len_own _ rfl _ 70 rfl 3 89 Tryd.underlying70 unitElem wr.heap.size _ (Sd (L.map SSetting.f0) (L.map SSetting.f0).length) rfl o1 ?_))
      go_ret
      exact ⟨by rw [HS.out.2.1, List.length_map]; rfl, HS.out.2.2.trans (HB.out.1.mono HS.out.2.2.size)⟩
end Go.Proofs.YtdommkpeilmdnaaDoor
