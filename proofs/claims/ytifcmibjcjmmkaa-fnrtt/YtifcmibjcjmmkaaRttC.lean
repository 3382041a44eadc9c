import Derived.Test.YtifcmibjcjmmkaaRttB
import Derived.Deep.LoopGhost
namespace Go.Proofs.Ytifcmibjcjmmkaa
open Go.RowKit
set_option linter.unusedVariables false
set_option linter.unusedSimpArgs false

/-- So often doubled, but at most MaxTime. -/
def pdL (x : Int) : Nat → Int
  | 0 => min x 1000000000000
  | k + 1 => if x < 1000000000000 then pdL (2 * x) k else 1000000000000
theorem pdL_min (x : Int) (k : Nat) : pdL (min x 1000000000000) k = pdL x k := by
  cases k with
  | zero => unfold pdL; omega
  | succ k =>
    by_cases h : x < 1000000000000
    · rw [show min x 1000000000000 = x by omega]
    · rw [show min x 1000000000000 = 1000000000000 by omega]
      unfold pdL
      rw [if_neg (by omega), if_neg h]
theorem pdL_top (x : Int) (k : Nat) (h : 1000000000000 ≤ x) : pdL x k = 1000000000000 := by
  cases k with
  | zero => unfold pdL; omega
  | succ k => unfold pdL; rw [if_neg (by omega)]
theorem pdL_up (x k : Int) (hk : 0 < k) (h : x < 1000000000000) : pdL x k.toNat = pdL (2 * x) (k - 1).toNat := by
  have e : k.toNat = (k - 1).toNat + 1 := by omega
  rw [e]
  conv => lhs; unfold pdL
  rw [if_pos h]
def pbase (c d m : Int) : Int := (if c = 0 then 333000 else c) + max (4 * (if c = 0 then 166500 else d)) 1000 + m
/-- What ProbeDelay answers. -/
def pdV (a b c d m n : Int) : Int := if ¬ okR a b c d ∨ ¬ tOK m ∨ n < 0 then -1 else pdL (pbase c d m) n.toNat
theorem wf_range {n : Int} (h : (Lit.int .i64 n).wf = true) : -9223372036854775808 ≤ n ∧ n ≤ 9223372036854775807 := by
  simpa [Lit.wf, IntKind.min, IntKind.max, IntKind.signed, IntKind.bits] using h
theorem below2 (w : World) (o1 o2 : Obj) : Below w.heap.size w ((w.alloc o1).alloc o2) := ((Below.refl _ _).alloc (Nat.le_refl _) o1).alloc (by simp) o2

set_option maxHeartbeats 2000000 in
theorem probeS (a b c d m n : Int) (hn : (Lit.int .i64 n).wf = true) (w : World) : Calls Try.prog 41 #[rv a b c d, .int .i64 m, .int .i64 n] w fun e w' => e = .returned (.int .i64 (pdV a b c d m n)) ∧ Below w.heap.size w w' := by
  have BB := below2 w
  by_cases h : ¬ okR a b c d
  · have hv : pdV a b c d m n = -1 := by unfold pdV; rw [if_pos (Or.inl h)]
    rw [hv]
    go_enter Try.func41, Try.ntmps41
    go_wp2_with (go_at_call 29; refine (rokS_f _ _ _ _ _ h).mono ?_; rintro e w' ⟨rfl, rfl⟩)
    go_ret
    exact ⟨rfl, BB _ _⟩
  have h := Classical.not_not.1 h
  by_cases h1 : ¬ tOK m
  · have hv : pdV a b c d m n = -1 := by unfold pdV; rw [if_pos (Or.inr (Or.inl h1))]
    rw [hv]
    go_enter Try.func41, Try.ntmps41
    go_wp2_with (first | (go_at_call 29; refine (rokS_t _ _ _ _ _ h).mono ?_; rintro e w' ⟨rfl, rfl⟩) | (go_at_call 20; refine (timeS_f _ _ h1).mono ?_; rintro e w' ⟨rfl, rfl⟩))
    go_ret
    exact ⟨rfl, BB _ _⟩
  have h1 := Classical.not_not.1 h1
  by_cases h2 : n < 0
  · have hv : pdV a b c d m n = -1 := by unfold pdV; rw [if_pos (Or.inr (Or.inr h2))]
    rw [hv]
    go_enter Try.func41, Try.ntmps41
    go_wp2_with (first | (go_at_call 29; refine (rokS_t _ _ _ _ _ h).mono ?_; rintro e w' ⟨rfl, rfl⟩) | (go_at_call 20; refine (timeS_t _ _ h1).mono ?_; rintro e w' ⟨rfl, rfl⟩))
    go_ret
    exact ⟨rfl, BB _ _⟩
  have hv : pdV a b c d m n = pdL (pbase c d m) n.toNat := by
    unfold pdV
    rw [if_neg]
    rintro (q | q | q)
    · exact q h
    · exact q h1
    · exact h2 q
  have hn' : n ≤ 9223372036854775807 := (wf_range hn).2
  have hm : 0 ≤ m ∧ m ≤ 1000000000000 := h1
  have hd : 0 ≤ d ∧ d ≤ 1000000000000 := h.2.2.2.1
  have hc' : 0 ≤ c ∧ c ≤ 1000000000000 := h.2.2.1
  rw [hv]
  obtain ⟨x0, hx0⟩ : ∃ x0, x0 = pbase c d m := ⟨_, rfl⟩
  rw [← hx0]
  by_cases hc : c = 0
  · subst hc
    have hx : x0 = 333000 + 666000 + m := by rw [hx0]; unfold pbase; simp; omega
    have HX : Hid _ := hx
    clear hx hx0 hv
    go_enter Try.func41, Try.ntmps41
    go_wp2_with (first | (go_at_call 29; refine (rokS_t _ _ _ _ _ h).mono ?_; rintro e w' ⟨rfl, rfl⟩) | (go_at_call 20; refine (timeS_t _ _ h1).mono ?_; rintro e w' ⟨rfl, rfl⟩))
    go_loopg [2, 7] n.toNat (fun q cv xv wr => ∃ k x : Int, 0 ≤ k ∧ k ≤ n ∧ q = k.toNat ∧ cv = .int .i64 k ∧ xv = .int .i64 x ∧ 1 ≤ x ∧ x ≤ 1000000000000 ∧ pdL x k.toNat = pdL x0 n.toNat ∧ Below w.heap.size w wr)
    case atStart => exact ⟨n, _, by omega, by omega, rfl, rfl, rfl, by omega, by omega, by rw [HX.out]; exact pdL_min _ _, BB _ _⟩
    case round =>
      obtain ⟨k, x, hk0, hk1, hq, rfl, rfl, hx1, hx2, hL, hB⟩ := hrel
      have HL : Hid _ := And.intro hL hB
      clear hL hB
      by_cases hk : 0 < k
      · by_cases hx : x < 1000000000000
        · go_wp2
          go_roundg (k - 1).toNat
          case measure => omega
          case rel => exact ⟨k - 1, min (2 * x) 1000000000000, by omega, by omega, rfl, by go_num, by go_num, by omega, by omega, by rw [pdL_min, ← pdL_up x k hk hx]; exact HL.out.1, HL.out.2⟩
        · have hf : pdL x0 n.toNat = x := by rw [← HL.out.1, pdL_top x _ (by omega)]; omega
          have HF : Hid _ := hf
          clear hf
          go_wp2
          go_ret
          exact ⟨by rw [HF.out]; rfl, HL.out.2⟩
      · have hf : pdL x0 n.toNat = x := by rw [← HL.out.1, show k.toNat = 0 by omega]; unfold pdL; omega
        have HF : Hid _ := hf
        clear hf
        go_wp2
        go_ret
        exact ⟨by rw [HF.out]; rfl, HL.out.2⟩
  · have hx : x0 = c + max (4 * d) 1000 + m := by rw [hx0]; unfold pbase; rw [if_neg hc, if_neg hc]
    have HX : Hid _ := hx
    clear hx hx0 hv
    go_enter Try.func41, Try.ntmps41
    go_wp2_with (first | (go_at_call 29; refine (rokS_t _ _ _ _ _ h).mono ?_; rintro e w' ⟨rfl, rfl⟩) | (go_at_call 20; refine (timeS_t _ _ h1).mono ?_; rintro e w' ⟨rfl, rfl⟩))
    go_loopg [2, 7] n.toNat (fun q cv xv wr => ∃ k x : Int, 0 ≤ k ∧ k ≤ n ∧ q = k.toNat ∧ cv = .int .i64 k ∧ xv = .int .i64 x ∧ 1 ≤ x ∧ x ≤ 1000000000000 ∧ pdL x k.toNat = pdL x0 n.toNat ∧ Below w.heap.size w wr)
    case atStart => exact ⟨n, _, by omega, by omega, rfl, rfl, rfl, by omega, by omega, by rw [HX.out]; exact pdL_min _ _, BB _ _⟩
    case round =>
      obtain ⟨k, x, hk0, hk1, hq, rfl, rfl, hx1, hx2, hL, hB⟩ := hrel
      have HL : Hid _ := And.intro hL hB
      clear hL hB
      by_cases hk : 0 < k
      · by_cases hx : x < 1000000000000
        · go_wp2
          go_roundg (k - 1).toNat
          case measure => omega
          case rel => exact ⟨k - 1, min (2 * x) 1000000000000, by omega, by omega, rfl, by go_num, by go_num, by omega, by omega, by rw [pdL_min, ← pdL_up x k hk hx]; exact HL.out.1, HL.out.2⟩
        · have hf : pdL x0 n.toNat = x := by rw [← HL.out.1, pdL_top x _ (by omega)]; omega
          have HF : Hid _ := hf
          clear hf
          go_wp2
          go_ret
          exact ⟨by rw [HF.out]; rfl, HL.out.2⟩
      · have hf : pdL x0 n.toNat = x := by rw [← HL.out.1, show k.toNat = 0 by omega]; unfold pdL; omega
        have HF : Hid _ := hf
        clear hf
        go_wp2
        go_ret
        exact ⟨by rw [HF.out]; rfl, HL.out.2⟩

set_option maxHeartbeats 2000000 in
theorem probeI (a b c d m n : Int) (hn : (Lit.int .i64 n).wf = true) (w : World) : Calls Try.prog 11 #[rv a b c d, .int .i64 m, .int .i64 n] w fun e w' => e = .returned (.int .i64 (pdV a b c d m n)) ∧ Below w.heap.size w w' := by
  have BB := below2 w
  by_cases h : ¬ okR a b c d
  · have hv : pdV a b c d m n = -1 := by unfold pdV; rw [if_pos (Or.inl h)]
    rw [hv]
    go_enter Try.func11, Try.ntmps11
    go_wp2_with (go_at_call 31; refine (rokI_f _ _ _ _ _ h).mono ?_; rintro e w' ⟨rfl, rfl⟩)
    go_ret
    exact ⟨rfl, BB _ _⟩
  have h := Classical.not_not.1 h
  by_cases h1 : ¬ tOK m
  · have hv : pdV a b c d m n = -1 := by unfold pdV; rw [if_pos (Or.inr (Or.inl h1))]
    rw [hv]
    go_enter Try.func11, Try.ntmps11
    go_wp2_with (first | (go_at_call 31; refine (rokI_t _ _ _ _ _ h).mono ?_; rintro e w' ⟨rfl, rfl⟩) | (go_at_call 25; refine (timeI_f _ _ h1).mono ?_; rintro e w' ⟨rfl, rfl⟩))
    go_ret
    exact ⟨rfl, BB _ _⟩
  have h1 := Classical.not_not.1 h1
  by_cases h2 : n < 0
  · have hv : pdV a b c d m n = -1 := by unfold pdV; rw [if_pos (Or.inr (Or.inr h2))]
    rw [hv]
    go_enter Try.func11, Try.ntmps11
    go_wp2_with (first | (go_at_call 31; refine (rokI_t _ _ _ _ _ h).mono ?_; rintro e w' ⟨rfl, rfl⟩) | (go_at_call 25; refine (timeI_t _ _ h1).mono ?_; rintro e w' ⟨rfl, rfl⟩))
    go_ret
    exact ⟨rfl, BB _ _⟩
  have hv : pdV a b c d m n = pdL (pbase c d m) n.toNat := by
    unfold pdV
    rw [if_neg]
    rintro (q | q | q)
    · exact q h
    · exact q h1
    · exact h2 q
  have hn' : n ≤ 9223372036854775807 := (wf_range hn).2
  have hm : 0 ≤ m ∧ m ≤ 1000000000000 := h1
  have hd : 0 ≤ d ∧ d ≤ 1000000000000 := h.2.2.2.1
  have hc' : 0 ≤ c ∧ c ≤ 1000000000000 := h.2.2.1
  rw [hv]
  obtain ⟨x0, hx0⟩ : ∃ x0, x0 = pbase c d m := ⟨_, rfl⟩
  rw [← hx0]
  by_cases hc : zR a b c d
  · have hx : x0 = 333000 + 666000 + m := by rw [hx0]; unfold pbase; rw [if_pos hc.2.2.1, if_pos hc.2.2.1]; omega
    have hb : 1 ≤ x0 ∧ x0 ≤ 6000000000000 := by omega
    have HX : Hid _ := And.intro hx hb
    clear hx hx0 hv hb
    go_enter Try.func11, Try.ntmps11
    go_wp2_with (first | (go_at_call 31; refine (rokI_t _ _ _ _ _ h).mono ?_; rintro e w' ⟨rfl, rfl⟩) | (go_at_call 25; refine (timeI_t _ _ h1).mono ?_; rintro e w' ⟨rfl, rfl⟩) | (go_at_call 33; refine (known_t _ _ _ _ _ hc).mono ?_; rintro e w' ⟨rfl, rfl⟩))
    go_loopg [2, 8] n.toNat (fun q cv xv wr => ∃ k x : Int, 0 ≤ k ∧ k ≤ n ∧ q = k.toNat ∧ cv = .int .i64 k ∧ xv = .int .i64 x ∧ 1 ≤ x ∧ x ≤ 6000000000000 ∧ pdL x k.toNat = pdL x0 n.toNat ∧ Below w.heap.size w wr)
    case atStart =>
      refine ⟨n, x0, by omega, by omega, rfl, rfl, by first | rw [HX.out.1]; done | (rw [HX.out.1]; rfl), HX.out.2.1, HX.out.2.2, rfl, ?_⟩
      repeat (refine Below.alloc ?_ (by simp <;> omega) _)
      exact Below.refl _ _
    case round =>
      obtain ⟨k, x, hk0, hk1, hq, rfl, rfl, hx1, hx2, hL, hB⟩ := hrel
      have HL : Hid _ := And.intro hL hB
      clear hL hB
      by_cases hk : 0 < k
      · by_cases hx : x < 1000000000000
        · go_wp2
          go_roundg (k - 1).toNat
          case measure => omega
          case rel => exact ⟨k - 1, 2 * x, by omega, by omega, rfl, by go_num, by first | (rw [Int.mul_comm]; done) | go_num, by omega, by omega, by rw [← pdL_up x k hk hx]; exact HL.out.1, HL.out.2⟩
        · have hf : pdL x0 n.toNat = min x 1000000000000 := by rw [← HL.out.1, pdL_top x _ (by omega)]; omega
          have HF : Hid _ := hf
          clear hf
          go_wp2
          go_ret
          exact ⟨by rw [HF.out]; rfl, HL.out.2⟩
      · have hf : pdL x0 n.toNat = min x 1000000000000 := by rw [← HL.out.1, show k.toNat = 0 by omega]; rfl
        have HF : Hid _ := hf
        clear hf
        go_wp2
        go_ret
        exact ⟨by rw [HF.out]; rfl, HL.out.2⟩
  · have hz := h.2.2.2.2.resolve_left hc
    have hx : x0 = c + max (4 * d) 1000 + m := by rw [hx0]; unfold pbase; rw [if_neg (by omega), if_neg (by omega)]
    have hb : 1 ≤ x0 ∧ x0 ≤ 6000000000000 := by omega
    have HX : Hid _ := And.intro hx hb
    clear hx hx0 hv hb
    go_enter Try.func11, Try.ntmps11
    go_wp2_with (first | (go_at_call 31; refine (rokI_t _ _ _ _ _ h).mono ?_; rintro e w' ⟨rfl, rfl⟩) | (go_at_call 25; refine (timeI_t _ _ h1).mono ?_; rintro e w' ⟨rfl, rfl⟩) | (go_at_call 33; refine (known_f _ _ _ _ _ hc).mono ?_; rintro e w' ⟨rfl, rfl⟩))
    go_loopg [2, 8] n.toNat (fun q cv xv wr => ∃ k x : Int, 0 ≤ k ∧ k ≤ n ∧ q = k.toNat ∧ cv = .int .i64 k ∧ xv = .int .i64 x ∧ 1 ≤ x ∧ x ≤ 6000000000000 ∧ pdL x k.toNat = pdL x0 n.toNat ∧ Below w.heap.size w wr)
    case atStart =>
      refine ⟨n, x0, by omega, by omega, rfl, rfl, by first | rw [HX.out.1]; done | (rw [HX.out.1]; rfl), HX.out.2.1, HX.out.2.2, rfl, ?_⟩
      repeat (refine Below.alloc ?_ (by simp <;> omega) _)
      exact Below.refl _ _
    case round =>
      obtain ⟨k, x, hk0, hk1, hq, rfl, rfl, hx1, hx2, hL, hB⟩ := hrel
      have HL : Hid _ := And.intro hL hB
      clear hL hB
      by_cases hk : 0 < k
      · by_cases hx : x < 1000000000000
        · go_wp2
          go_roundg (k - 1).toNat
          case measure => omega
          case rel => exact ⟨k - 1, 2 * x, by omega, by omega, rfl, by go_num, by first | (rw [Int.mul_comm]; done) | go_num, by omega, by omega, by rw [← pdL_up x k hk hx]; exact HL.out.1, HL.out.2⟩
        · have hf : pdL x0 n.toNat = min x 1000000000000 := by rw [← HL.out.1, pdL_top x _ (by omega)]; omega
          have HF : Hid _ := hf
          clear hf
          go_wp2
          go_ret
          exact ⟨by rw [HF.out]; rfl, HL.out.2⟩
      · have hf : pdL x0 n.toNat = min x 1000000000000 := by rw [← HL.out.1, show k.toNat = 0 by omega]; rfl
        have HF : Hid _ := hf
        clear hf
        go_wp2
        go_ret
        exact ⟨by rw [HF.out]; rfl, HL.out.2⟩
end Go.Proofs.Ytifcmibjcjmmkaa
