import Derived.Test.YtklppacfomfkaaaPfI
namespace Go.Proofs.Ytklppacfomfkaaa
open Go.RowKit
set_option linter.unusedVariables false

set_option maxHeartbeats 4000000 in
theorem putI_more (v h : Int) (k : Nat) (f : Int) (ef : f = fl k) (ao : Option Addr) (n cp base : Nat) (xs : List Int) (w : World) (h1 : 0 ≤ v) (h2 : v ≤ 4611686018427387903) (h3 : 1 ≤ k) (h8 : k ≤ 8) (h5 : 0 ≤ h) (h6 : h + f ≤ 256) (hge : f - 1 ≤ v)
    (ow : w.ownsRow base 5 1 (.slice ao n cp) n (xs.map (Value.int .u8))) (exs : xs.length = n) (hn : n ≤ 1000000) (hB : base ≤ w.heap.size) :
    Calls Try.prog 14 #[opV h (k : Int), .slice ao n cp, .int .i64 v] w fun e w' => ∃ r, e = .returned r ∧ w'.ownsRow base 5 1 r (n + (pfx v f h).length) ((xs ++ pfx v f h).map (Value.int .u8)) ∧ Below base w w' := by
  have el : pfx v f h = (h + (f - 1)) :: pcs 9 (v - (f - 1)) := by simp [pfx, show ¬ v < f - 1 by omega]
  obtain ⟨L, eL⟩ : ∃ L, L = xs ++ pfx v f h := ⟨_, rfl⟩
  have eLl : n + (pfx v f h).length = L.length := by rw [eL, List.length_append, exs]
  rw [eLl, ← eL]
  rw [el] at eL
  have EL : Hid (L = xs ++ (h + (f - 1)) :: pcs 9 (v - (f - 1))) := eL
  have D : ∀ u, Calls Try.prog 18 #[.int .i64 (k : Int)] u fun e w' => e = .returned (.int .i64 (f - 1)) ∧ w' = u := fun u => by rw [ef]; exact allI k u h3 h8
  have f8 : f ≤ 256 := by omega
  have f2 : 2 ≤ f := by rw [ef]; exact fl_two k (by omega)
  have b0 : Below base w (w.alloc (.cells #[.int .i64 h, .int .i64 (k : Int)] 35)) := (Below.refl _ _).alloc hB _
  have HD : Hid _ := And.intro D (And.intro b0 (ow.alloc (.cells #[.int .i64 h, .int .i64 (k : Int)] 35)))
  have oo : Hid (((w.alloc (.cells #[.int .i64 h, .int .i64 (k : Int)] 35)).alloc (.cells #[.int .u8 (h + (f - 1))] 5)).ownsRow base 5 1 (.slice ao n cp) n (xs.map (Value.int .u8))) := (ow.alloc _).alloc _
  have bb : Hid (base ≤ ((w.alloc (.cells #[.int .i64 h, .int .i64 (k : Int)] 35)).alloc (.cells #[.int .u8 (h + (f - 1))] 5)).heap.size) := by show base ≤ _; simp; omega
  have hd : decide (v < f - 1) = false := decide_eq_false (by omega)
  have EX : Hid (xs.length = n) := exs
  clear D ef el ow b0 eL eLl exs
  unfold opV
  go_enter Try.func14, Try.ntmps14
  go_wp2_with (first
    | (go_at_call 18; refine (HD.out.1 _).mono ?_; rintro e w' ⟨rfl, hw⟩; subst w')
    | (at_builtin; refine wpList_append_row rfl (.tmp 22) (.tmp 28) rfl base (.slice ao n cp) n xs rfl oo.out (.slice (some ⟨w.heap.size + 1, 0, none⟩) 1 1) [h + (f - 1)] rfl (by have := one_byteP (w.alloc (.cells #[.int .i64 h, .int .i64 (k : Int)] 35)) (h + (f - 1)); simpa using this) (by simp; omega) bb.out ?_; intro v3 w3 o3 g3; have HR : Hid _ := And.intro o3 (HD.out.2.1.trans (appP HD.out.2.2 (Nat.le_trans hB HD.out.2.1.size) g3)); clear o3 g3))
  go_loopw [1, 2] (fun o a wq => ∃ (n' N : Nat) (x : Int) (ys : List Int), ys.length = N ∧ a = .int .i64 x ∧ 0 ≤ x ∧ x < 128 ^ (n' + 1) ∧ x ≤ 4611686018427387903 ∧ n' ≤ 9 ∧ N + n' = n + 10 ∧ ys ++ pcs n' x = L ∧ wq.ownsRow base 5 1 o N (ys.map (Value.int .u8)) ∧ Below base w wq) (fun _ a _ => (intOf a).toNat)
  case atStart => exact ⟨9, n + 1, v - (f - 1), xs ++ [h + (f - 1)], by rw [List.length_append, EX.out]; rfl, by go_num, by omega, by omega, by omega, by omega, by omega, by rw [EL.out, List.append_assoc]; rfl, HR.out.1, HR.out.2⟩
  case round =>
    obtain ⟨n', N, x, ys, eN, rfl, x0, x1, x62, n9, nl, eq, ow, bw⟩ := hrel
    obtain ⟨ao', cp', ev⟩ := own_formQ ow
    subst ev
    by_cases hlt : 128 ≤ x
    · obtain ⟨m, rfl⟩ : ∃ m, n' = m + 1 := by
        cases n' with
        | zero => simp at x1; omega
        | succ m => exact ⟨m, rfl⟩
      rw [pcs_hi m x hlt] at eq
      have x2 : x / 128 < 128 ^ (m + 1) := by
        have : (128 : Int) ^ (m + 1 + 1) = 128 ^ (m + 1) * 128 := Int.pow_succ ..
        omega
      have y0 : 0 ≤ x % 128 := by omega
      have y1 : x % 128 < 128 := by omega
      have z0 : 0 ≤ x / 128 := by omega
      have zl : x / 128 < x := by omega
      have HH : Hid _ := And.intro ow (And.intro bw (And.intro eq (And.intro x2 (And.intro nl n9))))
      have oo : Hid ((wr.alloc (.cells #[.int .u8 (128 + x % 128)] 5)).ownsRow base 5 1 (.slice ao' N cp') N (ys.map (Value.int .u8))) := ow.alloc _
      have bb : Hid (base ≤ (wr.alloc (.cells #[.int .u8 (128 + x % 128)] 5)).heap.size) := by have := bw.size; show base ≤ (wr.alloc _).heap.size; simp; omega
      have hl10 : N ≤ 1000010 := by omega
      have EN : Hid (ys.length = N) := eN
      clear ow bw eq x2 nl n9 eN x1
      go_wp2_with (at_builtin; refine wpList_append_row rfl (.tmp 37) (.tmp 42) rfl base (.slice ao' N cp') N ys rfl oo.out (.slice (some ⟨wr.heap.size, 0, none⟩) 1 1) [128 + x % 128] rfl (one_byteP wr _) (by simp; omega) bb.out ?_; intro v4 w4 o4 g4; have HS : Hid _ := And.intro o4 (HH.out.2.1.trans (appP HH.out.1 (Nat.le_trans hB HH.out.2.1.size) g4)); clear o4 g4)
      go_roundw
      case rel => exact ⟨m, N + 1, x / 128, ys ++ [128 + x % 128], by rw [List.length_append, EN.out]; rfl, by go_num, z0, HH.out.2.2.2.1, by omega, by have := HH.out.2.2.2.2.2; omega, by have := HH.out.2.2.2.2.1; omega, by rw [List.append_assoc]; exact HH.out.2.2.1, HS.out.1, HS.out.2⟩
      case measure => simp [intOf]; omega
    · rw [pcs_lo n' x (by omega)] at eq
      have HH : Hid _ := And.intro ow (And.intro bw eq)
      have oo : Hid ((wr.alloc (.cells #[.int .u8 x] 5)).ownsRow base 5 1 (.slice ao' N cp') N (ys.map (Value.int .u8))) := ow.alloc _
      have bb : Hid (base ≤ (wr.alloc (.cells #[.int .u8 x] 5)).heap.size) := by have := bw.size; show base ≤ (wr.alloc _).heap.size; simp; omega
      have hl10 : N ≤ 1000010 := by omega
      have EN : Hid (ys.length = N) := eN
      have x127 : x < 128 := by omega
      clear ow bw eq x1 nl n9 eN hlt
      go_wp2_with (at_builtin; refine wpList_append_row rfl (.tmp 44) (.tmp 47) rfl base (.slice ao' N cp') N ys rfl oo.out (.slice (some ⟨wr.heap.size, 0, none⟩) 1 1) [x] rfl (one_byteP wr _) (by simp; omega) bb.out ?_; intro v4 w4 o4 g4; have HS : Hid _ := And.intro o4 (HH.out.2.1.trans (appP HH.out.1 (Nat.le_trans hB HH.out.2.1.size) g4)); clear o4 g4)
      go_ret
      refine ⟨_, rfl, ?_, HS.out.2⟩
      have := HS.out.1
      rw [← HH.out.2.2, List.length_append, EN.out]
      exact this
theorem putI (v h : Int) (k : Nat) (f : Int) (ef : f = fl k) (o : Value) (n base : Nat) (xs : List Int) (w : World) (h1 : 0 ≤ v) (h2 : v ≤ 4611686018427387903) (h3 : 1 ≤ k) (h8 : k ≤ 8) (h5 : 0 ≤ h) (h6 : h + f ≤ 256)
    (ow : w.ownsRow base 5 1 o n (xs.map (Value.int .u8))) (hn : n ≤ 1000000) (hB : base ≤ w.heap.size) :
    Calls Try.prog 14 #[opV h (k : Int), o, .int .i64 v] w fun e w' => ∃ r, e = .returned r ∧ w'.ownsRow base 5 1 r (n + (pfx v f h).length) ((xs ++ pfx v f h).map (Value.int .u8)) ∧ Below base w w' := by
  obtain ⟨ao, cp, rfl⟩ := own_formQ ow
  by_cases hlt : v < f - 1
  · exact putI_one v h k f ef ao n cp base xs w h1 h3 h8 h5 h6 hlt ow hn hB
  · exact putI_more v h k f ef ao n cp base xs w h1 h2 h3 h8 h5 h6 (by omega) ow (by have := ow.1; simpa using this) hn hB
end Go.Proofs.Ytklppacfomfkaaa
