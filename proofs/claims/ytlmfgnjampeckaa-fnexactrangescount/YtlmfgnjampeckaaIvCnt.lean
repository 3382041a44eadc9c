import Derived.Test.YtlmfgnjampeckaaIvOf
import Derived.Test.YtlmfgnjampeckaaRWrap
namespace Go.Proofs.Ytlmfgnjampeckaa
open Go.RowKit
set_option linter.unusedVariables false

def rcnt (R : List (Int × Int)) : Nat → Int
  | 0 => 0
  | k + 1 => rcnt R k + (rhi R k - rlo R k + 1)
theorem rcnt_nn {R : List (Int × Int)} (hg : ∀ j, j < R.length → rgood R j) (k : Nat) (hk : k ≤ R.length) : 0 ≤ rcnt R k := by
  induction k with
  | zero => exact Int.le_refl _
  | succ k ih =>
    have h1 := ih (by omega)
    have h2 := (hg k (by omega)).2.1
    show 0 ≤ rcnt R k + (rhi R k - rlo R k + 1)
    omega
theorem rcnt_le {R : List (Int × Int)} (hg : ∀ j, j < R.length → rgood R j) (k : Nat) (hk : k < R.length) : rcnt R k ≤ rlo R k := by
  induction k with
  | zero => have := (hg 0 hk).1; exact this
  | succ k ih =>
    have h1 := ih (by omega)
    have h2 := (hg (k + 1) hk).2.2.2 (by omega)
    rw [Nat.add_sub_cancel] at h2
    show rcnt R k + (rhi R k - rlo R k + 1) ≤ _
    omega
set_option maxRecDepth 20000 in
set_option maxHeartbeats 2000000 in
theorem countI (v : Value) (R : List (Int × Int)) (w : World) (h : RRow w v R) (hR : R.length ≤ 1048576) (hg : ∀ j, j < R.length → rgood R j) :
    Calls Try.prog 36 #[v] w fun e w' => e = .returned (.int .i64 (rcnt R R.length)) ∧ Below w.heap.size w w' := by
  obtain ⟨ao, cp, rfl⟩ := h.form
  obtain ⟨m, em⟩ : ∃ m, m = R.length := ⟨_, rfl⟩
  have HH : Hid _ := And.intro h (And.intro hg em)
  rw [← em] at hR ⊢
  clear h hg em
  go_enter Try.func36, Try.ntmps36
  go_wp2_with fail
  go_loopg [3, 9] m (fun q s i wr => ∃ k : Nat, k ≤ m ∧ q = m - k ∧ i = .int .i64 (k : Int) ∧ s = .int .i64 (rcnt R k) ∧ Below w.heap.size w wr)
  case atStart => exact ⟨0, by omega, by omega, rfl, rfl, Below.refl _ _⟩
  case round =>
    obtain ⟨k, hk, hq, rfl, rfl, bw⟩ := hrel
    by_cases hlt : k < m
    · obtain ⟨b, off, cap, ev, hbl, hc⟩ := HH.out.1.at' (by have := HH.out.2.2; omega)
      simp only [Value.slice.injEq] at ev
      obtain ⟨rfl, em2, rfl⟩ := ev
      clear em2
      obtain ⟨x, ex⟩ : ∃ x, x = rlo R k := ⟨_, rfl⟩
      obtain ⟨y, ey⟩ : ∃ y, y = rhi R k := ⟨_, rfl⟩
      obtain ⟨s, es⟩ : ∃ s, s = rcnt R k := ⟨_, rfl⟩
      have c0 := (bw.cell (p := ⟨b, off + k * 2, none⟩) hbl).trans (hc k (by have := HH.out.2.2; omega)).1
      have c1 := (bw.cell (p := ⟨b, off + k * 2 + 1, none⟩) hbl).trans (hc k (by have := HH.out.2.2; omega)).2
      have gk := HH.out.2.1 k (by have := HH.out.2.2; omega)
      have s0 := rcnt_nn HH.out.2.1 k (by have := HH.out.2.2; omega)
      have s1 := rcnt_le HH.out.2.1 k (by have := HH.out.2.2; omega)
      unfold rgood at gk
      rw [← ex, ← ey] at gk
      rw [← ex, ← es] at s1
      rw [← es] at s0 ⊢
      rw [← ex] at c0
      rw [← ey] at c1
      have w1 : IntKind.i64.wrap (y - x) = y - x := by rw [IntKind.wrap_i64]; omega
      have w2 : IntKind.i64.wrap (y - x + 1) = y - x + 1 := by rw [IntKind.wrap_i64]; omega
      have w3 : IntKind.i64.wrap (s + (y - x + 1)) = s + (y - x + 1) := by rw [IntKind.wrap_i64]; omega
      have H2 : Hid _ := And.intro (And.intro ex (And.intro ey es)) bw
      clear hc ex ey es bw gk s0 s1
      go_wp2
      go_roundg (m - (k + 1))
      case measure => omega
      case rel =>
        refine ⟨k + 1, by omega, rfl, by go_num, ?_, H2.out.2.alloc H2.out.2.size _⟩
        show _ = Value.int .i64 (rcnt R k + (rhi R k - rlo R k + 1))
        rw [← H2.out.1.1, ← H2.out.1.2.1, ← H2.out.1.2.2]
    · obtain rfl : k = m := by omega
      have H2 : Hid _ := And.intro bw True.intro
      clear bw
      go_wp2
      go_ret
      exact ⟨rfl, H2.out.1⟩
def rcntV (R : List (Int × Int)) : Int := if rokV R then rcnt R R.length else 0
theorem rangesCount_I (v : Value) (R : List (Int × Int)) (w : World) (h : RRow w v R) (hR : R.length ≤ 1048576) :
    Calls Try.prog 22 #[v] w fun e w' => e = .returned (.int .i64 (rcntV R)) ∧ Below w.heap.size w w' := by
  have OK := rangesOK_I v R w h (Nat.le_trans hR (by decide))
  obtain ⟨ao, cp, ev⟩ := h.form
  unfold rcntV
  cases hr : rokV R with
  | false =>
    rw [hr] at OK
    have HH : Hid _ := And.intro OK True.intro
    clear OK h
    subst ev
    go_enter Try.func22, Try.ntmps22
    go_wp2_with fail
    go_at_call 11
    refine HH.out.1.mono ?_
    rintro e w1 ⟨rfl, b1⟩
    go_wp2
    go_ret
    exact ⟨rfl, b1⟩
  | true =>
    rw [hr] at OK
    have hg := ((rok_iff R).1 hr).2
    have HH : Hid _ := And.intro OK (And.intro h (And.intro hR hg))
    clear OK h hg hR
    subst ev
    go_enter Try.func22, Try.ntmps22
    go_wp2_with fail
    go_at_call 11
    refine HH.out.1.mono ?_
    rintro e w1 ⟨rfl, b1⟩
    have H1 : Hid _ := And.intro b1 True.intro
    clear b1
    go_wp2_with fail
    go_at_call 31
    refine (ivOf _ R w1 (HH.out.2.1.below H1.out.1) HH.out.2.2.1).mono ?_
    rintro e w2 ⟨r, rfl, o2, b2⟩
    have H2 : Hid _ := And.intro (H1.out.1.trans (b2.mono H1.out.1.size)) o2.row
    clear o2 b2
    go_wp2_with fail
    go_at_call 36
    refine (countI _ R w2 H2.out.2 HH.out.2.2.1 HH.out.2.2.2).mono ?_
    rintro e w3 ⟨rfl, b3⟩
    have H3 : Hid _ := And.intro (H2.out.1.trans (b3.mono H2.out.1.size)) True.intro
    clear b3
    go_wp2
    go_ret
    exact ⟨by simp, H3.out.1⟩
set_option maxRecDepth 20000 in
set_option maxHeartbeats 2000000 in
theorem rangesCount_S (v : Value) (R : List (Int × Int)) (w : World) (h : RRow w v R) (hR : R.length ≤ 1048576) :
    Calls Try.prog 21 #[v] w fun e w' => e = .returned (.int .i64 (rcntV R)) ∧ Below w.heap.size w w' := by
  have OK := rokS v R w h (Nat.le_trans hR (by decide))
  obtain ⟨ao, cp, ev⟩ := h.form
  unfold rcntV
  cases hr : rokV R with
  | false =>
    rw [hr] at OK
    have HH : Hid _ := And.intro OK True.intro
    clear OK h
    subst ev
    go_enter Try.func21, Try.ntmps21
    go_wp2_with fail
    go_at_call 23
    refine HH.out.1.mono ?_
    rintro e w1 ⟨rfl, b1⟩
    go_wp2
    go_ret
    exact ⟨rfl, b1⟩
  | true =>
    rw [hr] at OK
    have hg := ((rok_iff R).1 hr).2
    subst ev
    obtain ⟨m, em⟩ : ∃ m, m = R.length := ⟨_, rfl⟩
    have HG : Hid _ := And.intro hg em
    have HH : Hid _ := And.intro h OK
    clear OK h hg
    rw [← em] at HH hR ⊢
    clear em
    go_enter Try.func21, Try.ntmps21
    go_wp2_with fail
    go_at_call 23
    refine HH.out.2.mono ?_
    rintro e w1 ⟨rfl, b1⟩
    have H1 : Hid _ := And.intro b1 True.intro
    clear b1
    go_wp2_with fail
    go_loopg [3, 4] m (fun q s i wr => ∃ k : Nat, k ≤ m ∧ q = m - k ∧ i = .int .i64 (k : Int) ∧ s = .int .i64 (rcnt R k) ∧ Below w.heap.size w wr)
    case atStart => exact ⟨0, by omega, by omega, rfl, rfl, H1.out.1⟩
    case round =>
      obtain ⟨k, hk, hq, rfl, rfl, bw⟩ := hrel
      by_cases hlt : k < m
      · obtain ⟨b, off, cap, ev, hbl, hc⟩ := HH.out.1.at' (by have := HG.out.2; omega)
        simp only [Value.slice.injEq] at ev
        obtain ⟨rfl, em2, rfl⟩ := ev
        clear em2
        obtain ⟨x, ex⟩ : ∃ x, x = rlo R k := ⟨_, rfl⟩
        obtain ⟨y, ey⟩ : ∃ y, y = rhi R k := ⟨_, rfl⟩
        obtain ⟨s, es⟩ : ∃ s, s = rcnt R k := ⟨_, rfl⟩
        have c0 := (bw.cell (p := ⟨b, off + k * 2, none⟩) hbl).trans (hc k (by have := HG.out.2; omega)).1
        have c1 := (bw.cell (p := ⟨b, off + k * 2 + 1, none⟩) hbl).trans (hc k (by have := HG.out.2; omega)).2
        have gk := HG.out.1 k (by have := HG.out.2; omega)
        have s0 := rcnt_nn HG.out.1 k (by have := HG.out.2; omega)
        have s1 := rcnt_le HG.out.1 k (by have := HG.out.2; omega)
        unfold rgood at gk
        rw [← ex, ← ey] at gk
        rw [← ex, ← es] at s1
        rw [← es] at s0 ⊢
        rw [← ex] at c0
        rw [← ey] at c1
        have w1' : IntKind.i64.wrap (s + y) = s + y := by rw [IntKind.wrap_i64]; omega
        have w2' : IntKind.i64.wrap (s + y - x) = s + y - x := by rw [IntKind.wrap_i64]; omega
        have w3' : IntKind.i64.wrap (s + y - x + 1) = s + y - x + 1 := by rw [IntKind.wrap_i64]; omega
        have H2 : Hid _ := And.intro (And.intro ex (And.intro ey es)) bw
        clear hc ex ey es bw gk s0 s1
        go_wp2_with fail
        go_quiet (fail)
        go_wp2
        go_roundg (m - (k + 1))
        case measure => omega
        case rel =>
          refine ⟨k + 1, by omega, rfl, by go_num, ?_, below_drewN H2.out.2 _⟩
          show _ = Value.int .i64 (rcnt R k + (rhi R k - rlo R k + 1))
          rw [← H2.out.1.1, ← H2.out.1.2.1, ← H2.out.1.2.2]
          congr 1
          omega
      · obtain rfl : k = m := by omega
        have H2 : Hid _ := And.intro bw True.intro
        clear bw
        go_wp2
        go_ret
        exact ⟨by simp, H2.out.1⟩
theorem fnExactRangesCount_walk (v : Value) (R : List (Int × Int)) (sm : R.length ≤ maxLen) (w : World) (row : RRow w v R) : Calls Try.prog 7 #[v] w fun e w' => e = .returned (.bool true) ∧ Below w.heap.size w w' :=
  fnExactRangesCount_of v R sm w row fun hf => ⟨rcntV R, fun v w h => rangesCount_S v R w h hf, fun v w h => rangesCount_I v R w h hf⟩
end Go.Proofs.Ytlmfgnjampeckaa
