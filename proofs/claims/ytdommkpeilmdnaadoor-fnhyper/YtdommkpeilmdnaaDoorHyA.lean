import Derived.Test.YtdommkpeilmdnaaDoorFlSetting
import Derived.Test.YtdommkpeilmdnaaDoorSetZ
import Derived.BigQuiet
import Derived.Deep.LoopGhost
namespace Go.Proofs.YtdommkpeilmdnaaDoor
open Go.RowKit
set_option linter.unusedVariables false

def hin (x : Int) : Bool := decide (0 ≤ x) && decide (x ≤ 4611686018427387903)
theorem hin_iff (x : Int) : hin x = true ↔ (0 ≤ x ∧ x ≤ 4611686018427387903) := by simp [hin]
theorem hinS (x : Int) (w : World) : Calls Tryd.prog 37 #[.int .i64 x] w fun e w' => e = .returned (.bool (hin x)) ∧ w' = w := by
  by_cases h0 : 0 ≤ x
  · have e : hin x = decide (x ≤ 4611686018427387903) := by unfold hin; rw [decide_eq_true h0]; rfl
    have E : Hid _ := And.intro e True.intro
    clear e
    go_enter Tryd.func37, Tryd.ntmps37
    go_wp2
    go_ret
    exact ⟨by rw [E.out.1]; rfl, rfl⟩
  · have e : hin x = false := by unfold hin; rw [decide_eq_false h0]; rfl
    have E : Hid _ := And.intro e True.intro
    clear e
    have d : decide (0 ≤ x) = false := decide_eq_false h0
    go_enter Tryd.func37, Tryd.ntmps37
    go_wp2
    go_ret
    exact ⟨by rw [E.out.1]; rfl, rfl⟩
theorem hinI (x : Int) (w : World) : Calls Tryd.prog 20 #[.int .i64 x] w fun e w' => e = .returned (.bool (hin x)) ∧ w' = w := by
  by_cases h0 : 0 ≤ x
  · have e : hin x = decide (x ≤ 4611686018427387903) := by unfold hin; rw [decide_eq_true h0]; rfl
    have E : Hid _ := And.intro e True.intro
    clear e
    go_enter Tryd.func20, Tryd.ntmps20
    go_wp2
    go_ret
    exact ⟨by rw [E.out.1]; rfl, rfl⟩
  · have e : hin x = false := by unfold hin; rw [decide_eq_false h0]; rfl
    have E : Hid _ := And.intro e True.intro
    clear e
    have d : decide (0 ≤ x) = false := decide_eq_false h0
    go_enter Tryd.func20, Tryd.ntmps20
    go_wp2
    go_ret
    exact ⟨by rw [E.out.1]; rfl, rfl⟩
/-- One of the settings: its numbers, and that its id does not stand among those ahead. -/
def sd1 (L : List SSetting) (i : Nat) : Prop := (hin (L.getD i default).f0 = true ∧ hin (L.getD i default).f1 = true) ∧ ∀ k, k < i → (L.getD k default).f0 ≠ (L.getD i default).f0
def sdP (L : List SSetting) : Prop := ∀ i, i < L.length → sd1 L i
instance (L : List SSetting) (i : Nat) : Decidable (sd1 L i) := by unfold sd1; infer_instance
instance (L : List SSetting) : Decidable (sdP L) := by unfold sdP; infer_instance
theorem srow_form {w : World} {v : Value} {L : List SSetting} (h : GRow 2 w v (SSetting.L L)) : ∃ ao cp, v = .slice ao L.length cp := by
  obtain ⟨ao, cp, e⟩ := h.form
  rw [List.length_map] at e
  exact ⟨ao, cp, e⟩
theorem srow_at {w : World} {ao : Option Addr} {n cp : Nat} {L : List SSetting} (h : GRow 2 w (.slice ao n cp) (SSetting.L L)) (en : n = L.length) (k : Nat) (hk : k < n) :
    ∃ b off, ao = some ⟨b, off, none⟩ ∧ b < w.heap.size ∧ ∀ u, Below w.heap.size w u → u.cell? ⟨b, off + k * 2, none⟩ = some (.int .i64 (L.getD k default).f0) ∧ u.cell? ⟨b, off + k * 2 + 1, none⟩ = some (.int .i64 (L.getD k default).f1) := by
  obtain ⟨b, off, cap, ev, hb, hc⟩ := h.at' (by rw [List.length_map]; omega)
  simp only [Value.slice.injEq] at ev
  refine ⟨b, off, ev.1, hb, fun u hu => ?_⟩
  have q := hc k (by rw [List.length_map]; omega)
  rw [SSetting.at L k (by omega)] at q
  exact ⟨(hu.cell (p := ⟨b, off + (k * 2 + 0), none⟩) hb).trans (q 0 (by omega)), (hu.cell (p := ⟨b, off + (k * 2 + 1), none⟩) hb).trans (q 1 (by omega))⟩
set_option maxRecDepth 20000 in
set_option maxHeartbeats 2000000 in
/-- The model's l15SetOK. -/
theorem setS (v : Value) (L : List SSetting) (w : World) (hr : GRow 2 w v (SSetting.L L)) (hl : L.length ≤ 9223372036854775807) :
    Calls Tryd.prog 38 #[v] w fun e w' => e = .returned (.bool (decide (L.length ≤ 16 ∧ sdP L))) ∧ Below w.heap.size w w' := by
  obtain ⟨ao, ca, rfl⟩ := srow_form hr
  obtain ⟨R, eR⟩ : ∃ R, R = decide (L.length ≤ 16 ∧ sdP L) := ⟨_, rfl⟩
  rw [← eR]
  obtain ⟨n, en⟩ : ∃ n, n = L.length := ⟨_, rfl⟩
  rw [← en] at hl hr ⊢
  have H0 : Hid _ := And.intro eR (And.intro en (fun k hk => srow_at hr en k hk))
  by_cases c1 : 16 < n
  · have hR : R = false := by rw [eR]; exact decide_eq_false (fun q => by rw [← en] at q; omega)
    subst hR
    clear eR en H0 hr
    go_enter Tryd.func38, Tryd.ntmps38
    go_wp2
    go_ret
    exact ⟨rfl, Below.refl _ _⟩
  clear eR en hr
  go_enter Tryd.func38, Tryd.ntmps38
  go_wp2
  go_loopg [3] n (fun q i wr => ∃ k : Nat, k ≤ n ∧ q = n - k ∧ i = .int .i64 (k : Int) ∧ Below w.heap.size w wr ∧ ∀ j, j < k → sd1 L j)
  case atStart => exact ⟨0, Nat.zero_le _, rfl, rfl, Below.refl _ _, fun j h => by omega⟩
  case round =>
    obtain ⟨k, hk, rfl, rfl, hz, hno⟩ := hrel
    have BW : Hid (Below w.heap.size w wr) := hz
    have HN : Hid _ := And.intro hno (And.intro hz True.intro)
    clear hno hz
    by_cases hlt : k < n
    · obtain ⟨b, off, rfl, hbl, cc⟩ := H0.out.2.2 k hlt
      obtain ⟨c0, c1'⟩ := cc wr BW.out
      obtain ⟨x, ex⟩ : ∃ x, x = (L.getD k default).f0 := ⟨_, rfl⟩
      obtain ⟨y, ey⟩ : ∃ y, y = (L.getD k default).f1 := ⟨_, rfl⟩
      rw [← ex] at c0
      rw [← ey] at c1'
      have V1 := hinS x wr
      have V2 := hinS y wr
      have EX : Hid _ := And.intro ex (And.intro ey cc)
      clear ex ey cc
      obtain ⟨p, ep⟩ : ∃ p, p = hin x := ⟨_, rfl⟩
      obtain ⟨q, eq⟩ : ∃ q, q = hin y := ⟨_, rfl⟩
      rw [← ep] at V1
      rw [← eq] at V2
      have HV : Hid _ := And.intro V1 (And.intro V2 (And.intro ep eq))
      clear V1 V2 ep eq
      have bad : ¬ (p = true ∧ q = true) → R = false := fun hb => by
        rw [H0.out.1]
        refine decide_eq_false (fun s => hb ?_)
        have t := (s.2 k (by rw [← H0.out.2.1]; exact hlt)).1
        rw [← EX.out.1, ← EX.out.2.1, ← HV.out.2.2.1, ← HV.out.2.2.2] at t
        exact t
      cases p with
      | false =>
        have HR : Hid _ := And.intro (bad (by simp)) True.intro
        clear bad
        go_wp2_with (go_at_call 37; refine HV.out.1.mono ?_; rintro e w1 ⟨rfl, hw⟩; subst hw)
        go_ret
        exact ⟨by rw [HR.out.1]; rfl, BW.out⟩
      | true =>
        cases q with
        | false =>
          have HR : Hid _ := And.intro (bad (by simp)) True.intro
          clear bad
          go_wp2_with (go_at_call 37; first | (refine HV.out.1.mono ?_; rintro e w1 ⟨rfl, hw⟩; subst hw) | (refine HV.out.2.1.mono ?_; rintro e w1 ⟨rfl, hw⟩; subst hw))
          go_ret
          exact ⟨by rw [HR.out.1]; rfl, BW.out⟩
        | true =>
          clear bad
          go_wp2_with (go_at_call 37; first | (refine HV.out.1.mono ?_; rintro e w1 ⟨rfl, hw⟩; subst hw) | (refine HV.out.2.1.mono ?_; rintro e w1 ⟨rfl, hw⟩; subst hw))
          clear c0 c1'
          go_loopg [4] k (fun q i wr => ∃ t : Nat, t ≤ k ∧ q = k - t ∧ i = .int .i64 (t : Int) ∧ Below w.heap.size w wr ∧ ∀ j, j < t → (L.getD j default).f0 ≠ x)
          case atStart => exact ⟨0, Nat.zero_le _, rfl, rfl, HN.out.2.1, fun j h => by omega⟩
          case round =>
            obtain ⟨t, ht, rfl, rfl, hz2, hne⟩ := hrel
            have BX : Hid (Below w.heap.size w wr) := hz2
            have HE' : Hid _ := And.intro hne (And.intro hz2 True.intro)
            clear hne
            by_cases hlt2 : t < k
            · obtain ⟨b2, off2, eb2, hbl2, cc2⟩ := H0.out.2.2 t (by omega)
              cases eb2
              have d0 : ∀ q, (wr.drewN q).cell? ⟨b, off + k * 2, none⟩ = some (.int .i64 x) := fun q => by rw [EX.out.1]; exact (EX.out.2.2 _ (below_drewN BX.out q)).1
              obtain ⟨y2, ey2⟩ : ∃ y2, y2 = (L.getD t default).f0 := ⟨_, rfl⟩
              have d1 : ∀ q, (wr.drewN q).cell? ⟨b, off + t * 2, none⟩ = some (.int .i64 y2) := fun q => by rw [ey2]; exact (cc2 _ (below_drewN BX.out q)).1
              have d0' := d0 0
              have d1' := d1 0
              have EY : Hid _ := And.intro ey2 True.intro
              clear ey2 cc2 hz2
              by_cases hxy : y2 = x
              · have ht2 : (y2 == x) = true := by simp [hxy]
                have hR : R = false := by
                  rw [H0.out.1]
                  refine decide_eq_false (fun s => ?_)
                  have h := (s.2 k (by rw [← H0.out.2.1]; exact hlt)).2 t hlt2
                  rw [← EX.out.1, ← EY.out.1] at h
                  exact h hxy
                have HR : Hid _ := And.intro hR True.intro
                clear hxy hR
                go_wp2
                go_quiet (fail)
                go_wp2
                go_ret
                exact ⟨by rw [HR.out.1]; rfl, below_drewN BX.out _⟩
              · have ht2 : (y2 == x) = false := by simp [hxy]
                have HXY : Hid _ := And.intro hxy True.intro
                clear hxy
                go_wp2
                go_quiet (fail)
                go_wp2
                go_roundg (k - (t + 1))
                case measure => omega
                case rel =>
                  refine ⟨t + 1, by omega, rfl, by go_num, below_drewN BX.out _, fun j hj => ?_⟩
                  by_cases hjt : j < t
                  · exact HE'.out.1 j hjt
                  · obtain rfl : j = t := by omega
                    rw [← EY.out.1]
                    exact HXY.out.1
            · clear hz2
              go_wp2
              go_roundg (n - (k + 1))
              case measure => omega
              case rel =>
                refine ⟨k + 1, by omega, rfl, by go_num, HE'.out.2.1, fun j hj => ?_⟩
                by_cases hjt : j < k
                · exact HN.out.1 j hjt
                · obtain rfl : j = k := by omega
                  exact ⟨⟨by rw [← EX.out.1]; exact HV.out.2.2.1.symm, by rw [← EX.out.2.1]; exact HV.out.2.2.2.symm⟩, fun j' hj' => by rw [← EX.out.1]; exact HE'.out.1 j' (by omega)⟩
    · have hR : R = true := by
        rw [H0.out.1]
        refine decide_eq_true ⟨by rw [← H0.out.2.1]; omega, fun i hi => HN.out.1 i (by rw [← H0.out.2.1] at hi; omega)⟩
      have HR : Hid _ := And.intro hR True.intro
      clear hR
      go_wp2
      go_ret
      exact ⟨by rw [HR.out.1]; rfl, BW.out⟩
end Go.Proofs.YtdommkpeilmdnaaDoor
