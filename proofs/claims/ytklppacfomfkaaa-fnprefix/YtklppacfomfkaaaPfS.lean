import Derived.Test.YtklppacfomfkaaaPfM
namespace Go.Proofs.Ytklppacfomfkaaa
open Go.RowKit
set_option linter.unusedVariables false

def pOK (v k h : Int) : Prop := 0 ≤ v ∧ v ≤ 4611686018427387903 ∧ 1 ≤ k ∧ k ≤ 8 ∧ 0 ≤ h ∧ h ≤ 255
theorem ppS_bad (v k h : Int) (w : World) (hb : ¬ pOK v k h) :
    Calls Try.prog 6 #[.int .i64 v, .int .i64 k, .int .i64 h] w fun e w' => ∃ r, e = .returned (.tuple #[r, .int .i64 1]) ∧ w'.ownsRow w.heap.size 5 1 r 0 (([] : List Int).map (Value.int .u8)) ∧ Below w.heap.size w w' := by
  have C := varS v w
  by_cases hv : 0 ≤ v ∧ v ≤ 4611686018427387903
  · rw [decide_eq_true hv] at C
    have hb' : k < 1 ∨ 8 < k ∨ h < 0 ∨ 255 < h := by unfold pOK at hb; omega
    have HC : Hid _ := And.intro C True.intro
    clear C hb hv
    by_cases h1 : k < 1
    · clear hb'
      go_enter Try.func6, Try.ntmps6
      go_wp2_with (go_at_call 15; refine HC.out.1.mono ?_; rintro e w' ⟨rfl, hw⟩; subst w')
      go_ret2
      exact ⟨_, rfl, World.ownsRow_lit _ #[] 0 (Nat.le_refl _) (by decide) rfl, (Below.refl _ _).alloc (Nat.le_refl _) _⟩
    · by_cases h2 : 8 < k
      · clear hb'
        go_enter Try.func6, Try.ntmps6
        go_wp2_with (go_at_call 15; refine HC.out.1.mono ?_; rintro e w' ⟨rfl, hw⟩; subst w')
        go_ret2
        exact ⟨_, rfl, World.ownsRow_lit _ #[] 0 (Nat.le_refl _) (by decide) rfl, (Below.refl _ _).alloc (Nat.le_refl _) _⟩
      · by_cases h3 : h < 0
        · clear hb'
          go_enter Try.func6, Try.ntmps6
          go_wp2_with (go_at_call 15; refine HC.out.1.mono ?_; rintro e w' ⟨rfl, hw⟩; subst w')
          go_ret2
          exact ⟨_, rfl, World.ownsRow_lit _ #[] 0 (Nat.le_refl _) (by decide) rfl, (Below.refl _ _).alloc (Nat.le_refl _) _⟩
        · have h4 : 255 < h := by omega
          clear hb'
          go_enter Try.func6, Try.ntmps6
          go_wp2_with (go_at_call 15; refine HC.out.1.mono ?_; rintro e w' ⟨rfl, hw⟩; subst w')
          go_ret2
          exact ⟨_, rfl, World.ownsRow_lit _ #[] 0 (Nat.le_refl _) (by decide) rfl, (Below.refl _ _).alloc (Nat.le_refl _) _⟩
  · rw [decide_eq_false hv] at C
    have HC : Hid _ := And.intro C True.intro
    clear C hb hv
    go_enter Try.func6, Try.ntmps6
    go_wp2_with (go_at_call 15; refine HC.out.1.mono ?_; rintro e w' ⟨rfl, hw⟩; subst w')
    go_ret2
    exact ⟨_, rfl, World.ownsRow_lit _ #[] 0 (Nat.le_refl _) (by decide) rfl, (Below.refl _ _).alloc (Nat.le_refl _) _⟩

set_option maxHeartbeats 2000000 in
theorem ppS_mod (v h : Int) (k : Nat) (f : Int) (ef : f = fl k) (w : World) (hb : pOK v k h) (hm : h % f ≠ 0) :
    Calls Try.prog 6 #[.int .i64 v, .int .i64 (k : Int), .int .i64 h] w fun e w' => ∃ r, e = .returned (.tuple #[r, .int .i64 1]) ∧ w'.ownsRow w.heap.size 5 1 r ([] : List Int).length (([] : List Int).map (Value.int .u8)) ∧ Below w.heap.size w w' := by
  have C := varS v w
  obtain ⟨h1, h2, h3, h4, h5, h6⟩ := hb
  rw [decide_eq_true ⟨h1, h2⟩] at C
  have HC : Hid _ := And.intro C True.intro
  have f2 : 2 ≤ f := by rw [ef]; exact fl_two k (by omega)
  have f8 : f ≤ 256 := by rw [ef]; exact fl_hi k (by omega)
  have EF : Hid (f = fl k) := ef
  clear C ef
  go_enter Try.func6, Try.ntmps6
  go_wp2_with (go_at_call 15; refine HC.out.1.mono ?_; rintro e w' ⟨rfl, hw⟩; subst w')
  go_loopw [8, 9] (fun a i wr => ∃ j : Nat, j ≤ k ∧ i = .int .i64 (j : Int) ∧ a = .int .i64 (fl j) ∧ wr = w) (fun _ i _ => k - (intOf i).toNat)
  case atStart => exact ⟨0, by omega, rfl, rfl, rfl⟩
  case round =>
    obtain ⟨j, hj, rfl, rfl, rfl⟩ := hrel
    by_cases hlt : j < k
    · have b1 := fl_lo j
      have b2 := fl_hi j (by omega)
      have es : Hid (fl (j + 1) = 2 * fl j) := fl_succ j
      obtain ⟨g, eg⟩ : ∃ g, g = fl j := ⟨_, rfl⟩
      rw [← eg] at b1 b2 es ⊢
      clear eg
      go_wp2
      go_roundw
      case rel => exact ⟨j + 1, by omega, by go_num, by rw [es.out], by first | rfl | trivial⟩
      case measure => simp [intOf]; omega
    · obtain rfl : j = k := by omega
      have ef := EF.out
      rw [← ef]
      clear ef hlt hj
      go_wp2
      go_ret2
      exact ⟨_, rfl, World.ownsRow_lit _ #[] 0 (Nat.le_refl _) (by decide) rfl, (Below.refl _ _).alloc (Nat.le_refl _) _⟩
set_option maxHeartbeats 2000000 in
theorem ppS_one (v h : Int) (k : Nat) (f : Int) (ef : f = fl k) (w : World) (hb : pOK v k h) (hm : h % f = 0) (hlt : v < f - 1) :
    Calls Try.prog 6 #[.int .i64 v, .int .i64 (k : Int), .int .i64 h] w fun e w' => ∃ r, e = .returned (.tuple #[r, .int .i64 0]) ∧ w'.ownsRow w.heap.size 5 1 r (pfx v f h).length ((pfx v f h).map (Value.int .u8)) ∧ Below w.heap.size w w' := by
  have C := varS v w
  obtain ⟨h1, h2, h3, h4, h5, h6⟩ := hb
  rw [decide_eq_true ⟨h1, h2⟩] at C
  have HC : Hid _ := And.intro C True.intro
  have f2 : 2 ≤ f := by rw [ef]; exact fl_two k (by omega)
  have f8 : f ≤ 256 := by rw [ef]; exact fl_hi k (by omega)
  have EF : Hid (f = fl k) := ef
  clear C ef
  have el : pfx v f h = [h + v] := by simp [pfx, hlt]
  have hhv : h + v < 256 := by have := fl_room k (by omega) h h5 h6 (by rw [← EF.out]; exact hm); have := EF.out; omega
  rw [el]
  clear el
  go_enter Try.func6, Try.ntmps6
  go_wp2_with (go_at_call 15; refine HC.out.1.mono ?_; rintro e w' ⟨rfl, hw⟩; subst w')
  go_loopw [8, 9] (fun a i wr => ∃ j : Nat, j ≤ k ∧ i = .int .i64 (j : Int) ∧ a = .int .i64 (fl j) ∧ wr = w) (fun _ i _ => k - (intOf i).toNat)
  case atStart => exact ⟨0, by omega, rfl, rfl, rfl⟩
  case round =>
    obtain ⟨j, hj, rfl, rfl, rfl⟩ := hrel
    by_cases hlt : j < k
    · have b1 := fl_lo j
      have b2 := fl_hi j (by omega)
      have es : Hid (fl (j + 1) = 2 * fl j) := fl_succ j
      obtain ⟨g, eg⟩ : ∃ g, g = fl j := ⟨_, rfl⟩
      rw [← eg] at b1 b2 es ⊢
      clear eg
      go_wp2
      go_roundw
      case rel => exact ⟨j + 1, by omega, by go_num, by rw [es.out], by first | rfl | trivial⟩
      case measure => simp [intOf]; omega
    · obtain rfl : j = k := by omega
      have ef := EF.out
      rw [← ef]
      clear ef hlt hj
      go_wp2
      go_ret2
      exact ⟨_, rfl, World.ownsRow_lit _ #[.int .u8 (h + v)] 1 (Nat.le_refl _) (by decide) rfl, (Below.refl _ _).alloc (Nat.le_refl _) _⟩
set_option maxHeartbeats 2000000 in
theorem ppS_more (v h : Int) (k : Nat) (f : Int) (ef : f = fl k) (w : World) (hb : pOK v k h) (hm : h % f = 0) (hge : f - 1 ≤ v) :
    Calls Try.prog 6 #[.int .i64 v, .int .i64 (k : Int), .int .i64 h] w fun e w' => ∃ r, e = .returned (.tuple #[r, .int .i64 0]) ∧ w'.ownsRow w.heap.size 5 1 r (pfx v f h).length ((pfx v f h).map (Value.int .u8)) ∧ Below w.heap.size w w' := by
  have C := varS v w
  obtain ⟨h1, h2, h3, h4, h5, h6⟩ := hb
  rw [decide_eq_true ⟨h1, h2⟩] at C
  have HC : Hid _ := And.intro C True.intro
  have f2 : 2 ≤ f := by rw [ef]; exact fl_two k (by omega)
  have f8 : f ≤ 256 := by rw [ef]; exact fl_hi k (by omega)
  have EF : Hid (f = fl k) := ef
  clear C ef
  have el : pfx v f h = (h + (f - 1)) :: pcs 9 (v - (f - 1)) := by simp [pfx, show ¬ v < f - 1 by omega]
  have hhv : h + f ≤ 256 := by have := fl_room k (by omega) h h5 h6 (by rw [← EF.out]; exact hm); have := EF.out; omega
  rw [el]
  obtain ⟨L, eL⟩ : ∃ L, L = (h + (f - 1)) :: pcs 9 (v - (f - 1)) := ⟨_, rfl⟩
  rw [← eL]
  have EL : Hid (L = (h + (f - 1)) :: pcs 9 (v - (f - 1))) := eL
  have hz : (h % f != 0) = false := by simp [hm]
  clear el eL hm
  go_enter Try.func6, Try.ntmps6
  go_wp2_with (go_at_call 15; refine HC.out.1.mono ?_; rintro e w' ⟨rfl, hw⟩; subst w')
  go_loopw [8, 9] (fun a i wr => ∃ j : Nat, j ≤ k ∧ i = .int .i64 (j : Int) ∧ a = .int .i64 (fl j) ∧ wr = w) (fun _ i _ => k - (intOf i).toNat)
  case atStart => exact ⟨0, by omega, rfl, rfl, rfl⟩
  case round =>
    obtain ⟨j, hj, rfl, rfl, rfl⟩ := hrel
    by_cases hlt : j < k
    · have b1 := fl_lo j
      have b2 := fl_hi j (by omega)
      have es : Hid (fl (j + 1) = 2 * fl j) := fl_succ j
      obtain ⟨g, eg⟩ : ∃ g, g = fl j := ⟨_, rfl⟩
      rw [← eg] at b1 b2 es ⊢
      clear eg
      go_wp2
      go_roundw
      case rel => exact ⟨j + 1, by omega, by go_num, by rw [es.out], by first | rfl | trivial⟩
      case measure => simp [intOf]; omega
    · obtain rfl : j = k := by omega
      have ef := EF.out
      rw [← ef]
      clear ef hlt hj
      go_wp2
      go_loopw [0, 10] (fun a o wq => ∃ (n N : Nat) (x : Int) (xs : List Int), xs.length = N ∧ a = .int .i64 x ∧ 0 ≤ x ∧ x < 128 ^ (n + 1) ∧ x ≤ 4611686018427387903 ∧ n ≤ 9 ∧ N + n = 10 ∧ xs ++ pcs n x = L ∧ wq.ownsRow wr.heap.size 5 1 o N (xs.map (Value.int .u8)) ∧ Below wr.heap.size wr wq) (fun a _ _ => (intOf a).toNat)
      case atStart => exact ⟨9, 1, v - f + 1, [h + (f - 1)], rfl, by go_num, by omega, by omega, by omega, by omega, by omega, by rw [EL.out, show v - f + 1 = v - (f - 1) by omega]; rfl, by have := lit1P wr (h + (f - 1)); rw [show h + f - 1 = h + (f - 1) by omega]; exact this, (Below.refl _ _).alloc (Nat.le_refl _) _⟩
      case round =>
        rename World => wq
        obtain ⟨n, N, x, xs, eN, rfl, x0, x1, x62, n9, nl, eq, ow, bw⟩ := hrel
        obtain ⟨ao, cp, ev⟩ := own_formQ ow
        subst ev
        by_cases hlt : 128 ≤ x
        · obtain ⟨m, rfl⟩ : ∃ m, n = m + 1 := by
            cases n with
            | zero => simp at x1; omega
            | succ m => exact ⟨m, rfl⟩
          rw [pcs_hi m x hlt] at eq
          have x2 : x / 128 < 128 ^ (m + 1) := by
            have : (128 : Int) ^ (m + 1 + 1) = 128 ^ (m + 1) * 128 := Int.pow_succ ..
            omega
          have y0 : 0 ≤ x % 128 := by omega
          have y1 : x % 128 < 128 := by omega
          have z0 : 0 ≤ x / 128 := by omega
          have zl : x / 128 < x := by omega
          have HH : Hid _ := And.intro ow (And.intro bw (And.intro eq (And.intro x2 (And.intro nl n9))))
          have oo : Hid ((wq.alloc (.cells #[.int .u8 (128 + x % 128)] 5)).ownsRow wr.heap.size 5 1 (.slice ao N cp) N (xs.map (Value.int .u8))) := ow.alloc _
          have bb : Hid (wr.heap.size ≤ (wq.alloc (.cells #[.int .u8 (128 + x % 128)] 5)).heap.size) := by have := bw.size; show wr.heap.size ≤ (wq.alloc _).heap.size; simp; omega
          have hl10 : N ≤ 10 := by omega
          have EN : Hid (xs.length = N) := eN
          clear ow bw eq x2 nl n9 eN x1
          go_wp2_with (at_builtin; refine wpList_append_row rfl (.tmp 64) (.tmp 69) rfl wr.heap.size (.slice ao N cp) N xs rfl oo.out (.slice (some ⟨wq.heap.size, 0, none⟩) 1 1) [128 + x % 128] rfl (one_byteP wq _) (by simp; omega) bb.out ?_; intro v3 w3 o3 g3; have HR : Hid _ := And.intro o3 (HH.out.2.1.trans (appP HH.out.1 HH.out.2.1.size g3)); clear o3 g3)
          go_roundw
          case rel => exact ⟨m, N + 1, x / 128, xs ++ [128 + x % 128], by rw [List.length_append, EN.out]; rfl, by go_num, z0, HH.out.2.2.2.1, by omega, by have := HH.out.2.2.2.2.2; omega, by have := HH.out.2.2.2.2.1; omega, by rw [List.append_assoc]; exact HH.out.2.2.1, HR.out.1, HR.out.2⟩
          case measure => simp [intOf]; omega
        · rw [pcs_lo n x (by omega)] at eq
          have HH : Hid _ := And.intro ow (And.intro bw eq)
          have oo : Hid ((wq.alloc (.cells #[.int .u8 x] 5)).ownsRow wr.heap.size 5 1 (.slice ao N cp) N (xs.map (Value.int .u8))) := ow.alloc _
          have bb : Hid (wr.heap.size ≤ (wq.alloc (.cells #[.int .u8 x] 5)).heap.size) := by have := bw.size; show wr.heap.size ≤ (wq.alloc _).heap.size; simp; omega
          have hl10 : N ≤ 10 := by omega
          have EN : Hid (xs.length = N) := eN
          have x127 : x < 128 := by omega
          clear ow bw eq x1 nl n9 eN hlt
          go_wp2_with (at_builtin; refine wpList_append_row rfl (.tmp 73) (.tmp 76) rfl wr.heap.size (.slice ao N cp) N xs rfl oo.out (.slice (some ⟨wq.heap.size, 0, none⟩) 1 1) [x] rfl (one_byteP wq _) (by simp; omega) bb.out ?_; intro v3 w3 o3 g3; have HR : Hid _ := And.intro o3 (HH.out.2.1.trans (appP HH.out.1 HH.out.2.1.size g3)); clear o3 g3)
          go_ret2
          refine ⟨_, rfl, ?_, HR.out.2⟩
          have := HR.out.1
          rw [← HH.out.2.2, List.length_append, EN.out]
          exact this
end Go.Proofs.Ytklppacfomfkaaa
