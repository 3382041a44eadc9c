import Derived.Test.YtdjflbanbhhniaaDoorQpD
namespace Go.Proofs.YtdjflbanbhhniaaDoor
open Go.RowKit
set_option linter.unusedVariables false

theorem pln_alt (n v : ByteArray) : pln n v = (!brd n && (nOK n && (!decide (1 ≤ n.size ∧ bt n 0 = 58) && vpl v))) := by
  unfold pln fOK
  cases hn : nOK n with
  | false => simp
  | true =>
    have h1 : 1 ≤ n.size := by
      unfold nOK at hn
      simp only [Bool.and_eq_true, decide_eq_true_eq] at hn
      exact hn.1.1
    have hv : vpl v = true → vOK v = true := fun h => by unfold vpl at h; simp only [Bool.and_eq_true] at h; exact h.1
    cases hb : brd n <;> cases hp : vpl v <;> cases ho : vOK v <;> by_cases hx : bt n 0 = 58 <;> simp [h1, hx]
    all_goals (have := hv hp; rw [ho] at this; cases this)
set_option maxHeartbeats 4000000 in
theorem plainI (n v : ByteArray) (w : World) (hn : n.size ≤ 9223372036854775807) (hv : v.size ≤ 9223372036854775807) :
    Calls Tryd.prog 47 #[.agg #[.string n, .string v]] w fun e w' => e = .returned (.bool (pln n v)) ∧ Below w.heap.size w w' := by
  have b0 : Below w.heap.size w (w.alloc (.cells #[.string n, .string v] 44)) := (Below.refl _ _).alloc (Nat.le_refl _) _
  have C1 := nameI n (w.alloc (.cells #[.string n, .string v] 44)) hn
  have C2 : ∀ u, _ := fun u => pre58 n u hn
  have C3 : ∀ u, _ := fun u => valI v u hv
  have cel : ∀ u, Below (w.heap.size + 1) (w.alloc (.cells #[.string n, .string v] 44)) u → u.cell? ⟨w.heap.size, 0, none⟩ = some (.string n) ∧ u.cell? ⟨w.heap.size, 1, none⟩ = some (.string v) := fun u hb => by
    have k := (hb.block w.heap.size (by omega)).trans (MapKept.heap_alloc w (.cells #[.string n, .string v] 44)).1
    simp only [World.cell?, k]
    exact ⟨rfl, rfl⟩
  obtain ⟨N, eN⟩ : ∃ N, N = pln n v := ⟨_, rfl⟩
  rw [← eN]
  rw [pln_alt] at eN
  generalize nOK n = A at *
  generalize decide (1 ≤ n.size ∧ bt n 0 = 58) = B at *
  generalize vpl v = V at *
  have H : Hid _ := And.intro C1 (And.intro C2 (And.intro C3 (And.intro b0 cel)))
  clear C1 C2 C3 b0 cel hn hv
  unfold brd at eN
  cases q0 : (n == bn0) with
  | true =>
    have HN : Hid (N = false) := by show N = false; rw [eN, q0]; simp
    have t0 : (n.toList == bl0) = true := tl_litQ n _ _ q0
    have r0 : (n == bn0) = true := q0
    unfold bl0 at t0
    unfold bn0 at r0
    clear eN q0
    go_enter Tryd.func47, Tryd.ntmps47
    go_wp2
    go_ret
    exact ⟨by rw [HN.out]; rfl, H.out.2.2.2.1⟩
  | false =>
  have t0 : (n.toList == bl0) = false := tl_litQ n _ _ q0
  have r0 : (n == bn0) = false := q0
  unfold bl0 at t0
  unfold bn0 at r0
  cases q1 : (n == bn1) with
  | true =>
    have HN : Hid (N = false) := by show N = false; rw [eN, q1]; simp
    have t1 : (n.toList == bl1) = true := tl_litQ n _ _ q1
    have r1 : (n == bn1) = true := q1
    unfold bl1 at t1
    unfold bn1 at r1
    clear eN q0 q1
    go_enter Tryd.func47, Tryd.ntmps47
    go_wp2
    go_ret
    exact ⟨by rw [HN.out]; rfl, H.out.2.2.2.1⟩
  | false =>
  have t1 : (n.toList == bl1) = false := tl_litQ n _ _ q1
  have r1 : (n == bn1) = false := q1
  unfold bl1 at t1
  unfold bn1 at r1
  cases q2 : (n == bn2) with
  | true =>
    have HN : Hid (N = false) := by show N = false; rw [eN, q2]; simp
    have t2 : (n.toList == bl2) = true := tl_litQ n _ _ q2
    have r2 : (n == bn2) = true := q2
    unfold bl2 at t2
    unfold bn2 at r2
    clear eN q0 q1 q2
    go_enter Tryd.func47, Tryd.ntmps47
    go_wp2
    go_ret
    exact ⟨by rw [HN.out]; rfl, H.out.2.2.2.1⟩
  | false =>
  have t2 : (n.toList == bl2) = false := tl_litQ n _ _ q2
  have r2 : (n == bn2) = false := q2
  unfold bl2 at t2
  unfold bn2 at r2
  cases q3 : (n == bn3) with
  | true =>
    have HN : Hid (N = false) := by show N = false; rw [eN, q3]; simp
    have t3 : (n.toList == bl3) = true := tl_litQ n _ _ q3
    have r3 : (n == bn3) = true := q3
    unfold bl3 at t3
    unfold bn3 at r3
    clear eN q0 q1 q2 q3
    go_enter Tryd.func47, Tryd.ntmps47
    go_wp2
    go_ret
    exact ⟨by rw [HN.out]; rfl, H.out.2.2.2.1⟩
  | false =>
  have t3 : (n.toList == bl3) = false := tl_litQ n _ _ q3
  have r3 : (n == bn3) = false := q3
  unfold bl3 at t3
  unfold bn3 at r3
  have E1 : N = (A && (!B && V)) := by rw [eN, q0, q1, q2, q3]; rfl
  have HN : Hid _ := And.intro E1 True.intro
  clear eN E1 q0 q1 q2 q3
  go_enter Tryd.func47, Tryd.ntmps47
  go_wp2_with fail
  go_at_call 52
  refine H.out.1.mono ?_
  rintro e w1 ⟨rfl, b1⟩
  have A1 : Below (w.heap.size + 1) (w.alloc (.cells #[.string n, .string v] 44)) w1 := by simpa using b1
  obtain ⟨c0, c1⟩ := H.out.2.2.2.2 w1 A1
  have H1 : Hid _ := And.intro (H.out.2.2.2.1.trans (b1.mono H.out.2.2.2.1.size)) True.intro
  clear b1 A1
  cases A with
  | false =>
    go_wp2
    go_ret
    exact ⟨by rw [HN.out.1]; rfl, H1.out.1⟩
  | true =>
  go_wp2_with fail
  go_at_call 40
  refine (H.out.2.1 _).mono ?_
  rintro e w2 ⟨rfl, hw⟩
  subst hw
  cases B with
  | true =>
    go_wp2
    go_ret
    exact ⟨by rw [HN.out.1]; rfl, H1.out.1⟩
  | false =>
  go_wp2_with fail
  go_at_call 46
  refine (H.out.2.2.1 _).mono ?_
  rintro e w3 ⟨rfl, hw⟩
  subst hw
  go_wp2
  go_ret
  exact ⟨by rw [HN.out.1]; rfl, H1.out.1⟩
end Go.Proofs.YtdjflbanbhhniaaDoor
