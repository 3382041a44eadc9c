import Derived.Test.YtdjflbanbhhniaaDoorFdA
import Derived.Lib.ConvBytes
namespace Go.Proofs.YtdjflbanbhhniaaDoor
open Go.RowKit
set_option linter.unusedVariables false

/-- Are the first n bytes all from lo to hi? -/
def inR (s : ByteArray) (lo hi : Int) (n : Nat) : Bool := (List.range n).all fun i => decide (lo ≤ bt s i ∧ bt s i ≤ hi)
theorem inR_succ (s : ByteArray) (lo hi : Int) (n : Nat) : inR s lo hi (n + 1) = (inR s lo hi n && decide (lo ≤ bt s n ∧ bt s n ≤ hi)) := by simp [inR, List.range_succ]
theorem inR_at {s : ByteArray} {lo hi : Int} {n : Nat} (h : inR s lo hi n = true) (i : Nat) (hi' : i < n) : lo ≤ bt s i ∧ bt s i ≤ hi := by
  have := List.all_eq_true.1 h i (List.mem_range.2 hi')
  exact of_decide_eq_true this
theorem inR_no (s : ByteArray) (lo hi : Int) (n i : Nat) (h : i < n) (hb : ¬ (lo ≤ bt s i ∧ bt s i ≤ hi)) : inR s lo hi n = false := by
  cases hv : inR s lo hi n with
  | false => rfl
  | true => exact absurd (inR_at hv i h) hb
/-- 1 to most bytes, all from lo to hi. -/
def spl (s : ByteArray) (most lo hi : Int) : Bool := decide (1 ≤ s.size ∧ (s.size : Int) ≤ most) && inR s lo hi s.size
/-- The number that the first n digits tell. -/
def dv (s : ByteArray) : Nat → Int
  | 0 => 0
  | n + 1 => 10 * dv s n + (bt s n - 48)
theorem dv_nn (s : ByteArray) (n : Nat) (h : inR s 48 57 n = true) : 0 ≤ dv s n := by
  induction n with
  | zero => simp [dv]
  | succ n ih =>
    have h1 : inR s 48 57 n = true := by rw [inR_succ] at h; simp at h; exact h.1
    have h2 := inR_at h n (by omega)
    have := ih h1
    simp only [dv]; omega
theorem dv_lt (s : ByteArray) (n : Nat) (h : inR s 48 57 n = true) : dv s n < 10 ^ n := by
  induction n with
  | zero => simp [dv]
  | succ n ih =>
    have h1 : inR s 48 57 n = true := by rw [inR_succ] at h; simp at h; exact h.1
    have h2 := inR_at h n (by omega)
    have := ih h1
    simp only [dv]
    rw [Int.pow_succ]; omega
theorem dv_bd (s : ByteArray) (n : Nat) (h : inR s 48 57 n = true) (hn : n ≤ 9) : dv s n ≤ 999999999 := by
  have h1 := dv_lt s n h
  have h2 : (10 : Int) ^ n ≤ 10 ^ 9 := by exact_mod_cast Nat.pow_le_pow_right (by decide) hn
  have h3 : (10 : Int) ^ 9 = 1000000000 := by decide
  omega

set_option maxHeartbeats 1000000 in
theorem spelI (s : ByteArray) (most lo hi : Int) (w : World) (hm : s.size ≤ 9223372036854775807) : Calls Tryd.prog 45 #[.string s, .int .i64 most, .int .u8 lo, .int .u8 hi] w fun e w' => e = .returned (.bool (spl s most lo hi)) ∧ w' = w := by
  by_cases h1 : s.size < 1
  · rw [show spl s most lo hi = false by unfold spl; simp; intro a; omega]
    have h0 : s.size = 0 := by omega
    clear hm h1
    go_enter Tryd.func45, Tryd.ntmps45
    go_wp2
    go_ret
    exact ⟨rfl, rfl⟩
  by_cases h2 : most < (s.size : Int)
  · rw [show spl s most lo hi = false by unfold spl; simp; intro a b; omega]
    clear hm
    go_enter Tryd.func45, Tryd.ntmps45
    go_wp2
    go_ret
    exact ⟨rfl, rfl⟩
  have en : spl s most lo hi = inR s lo hi s.size := by unfold spl; simp; intro a; omega
  rw [en]
  obtain ⟨N, eN⟩ : ∃ N, N = inR s lo hi s.size := ⟨_, rfl⟩
  rw [← eN]
  have HN : Hid (N = inR s lo hi s.size) := eN
  clear en eN
  go_enter Tryd.func45, Tryd.ntmps45
  go_wp2
  go_loop [21] (fun i => ∃ k : Nat, k ≤ s.size ∧ i = .int .i64 (k : Int) ∧ inR s lo hi k = true) (fun i => s.size - (intOf i).toNat)
  case atStart => exact ⟨0, by omega, rfl, rfl⟩
  case round =>
    obtain ⟨k, hk, rfl, hA⟩ := hrel
    by_cases hlt : k < s.size
    · have hix := ixC s k hlt
      have hno := inR_no s lo hi s.size k hlt
      have hsu := inR_succ s lo hi k
      obtain ⟨x, ex⟩ : ∃ x, x = bt s k := ⟨_, rfl⟩
      rw [← ex] at hix hno hsu
      by_cases q1 : x < lo
      · have HF : Hid (N = false) := by show N = false; rw [HN.out, hno (by omega)]
        clear hno hsu ex hA
        go_wp2
        go_ret
        exact ⟨by rw [HF.out]; rfl, rfl⟩
      by_cases q2 : hi < x
      · have HF : Hid (N = false) := by show N = false; rw [HN.out, hno (by omega)]
        clear hno hsu ex hA
        go_wp2
        go_ret
        exact ⟨by rw [HF.out]; rfl, rfl⟩
      have HR : Hid (inR s lo hi (k + 1) = true) := by show inR s lo hi (k + 1) = true; rw [hsu, hA]; simp; omega
      clear hno hsu ex hA
      go_wp2
      go_round
      case rel => exact ⟨k + 1, by omega, by go_num, HR.out⟩
      case measure => simp [intOf]; omega
    · obtain rfl : k = s.size := by omega
      have HF : Hid (N = true) := by show N = true; rw [HN.out, hA]
      clear hA
      go_wp2
      go_ret
      exact ⟨by rw [HF.out]; rfl, rfl⟩
theorem bt_data (s : ByteArray) (i : Nat) (h : i < s.size) : bt s i = ((s.data.toList.map (fun b : UInt8 => (b.toNat : Int))).getD i 0) := by
  have hd : i < s.data.toList.length := by rw [Array.length_toList]; exact h
  simp only [List.getD, List.getElem?_map, List.getElem?_eq_getElem hd, Option.map_some, Option.getD_some]
  rw [← bt_at s i h]
  simp
  rfl
theorem convB (tb : TypeId) (hb : Tryd.prog.underlying tb = some (.slice 5)) (w : World) (s : ByteArray) : ∃ C W, (convert 9 tb (.string s)).run Tryd.prog w = .ok (.slice (some ⟨w.heap.size, 0, none⟩) s.size C) W ∧ (∀ u, Below W.heap.size W u → ∀ j, j < s.size → u.cell? ⟨w.heap.size, j, none⟩ = some (.int .u8 (bt s j))) ∧ Below w.heap.size w W ∧ w.heap.size < W.heap.size := by
  refine ⟨_, _, Lib.run_convert_string_bytes w 9 tb 5 s Tryd.underlying9 hb Tryd.underlying5, ?_, ⟨rfl, rfl, rfl, by rw [Lib.bytesWorld_size]; omega, fun k hk => Lib.bytesWorld_at_old w _ s k hk⟩, by rw [Lib.bytesWorld_size]; omega⟩
  intro u hu j hj
  rw [hu.cell (p := ⟨w.heap.size, j, none⟩) (by rw [Lib.bytesWorld_size]; show w.heap.size < _; omega), Lib.bytesWorld_cell w _ s j hj, bt_data s j hj]
  have hd : j < s.data.toList.length := by rw [Array.length_toList]; exact hj
  simp only [List.getD, List.getElem?_map, List.getElem?_eq_getElem hd, Option.map_some, Option.getD_some]
set_option maxRecDepth 20000 in
set_option maxHeartbeats 1000000 in
/-- The numeral of 1 to 9 digits. -/
theorem atoi0 (s : ByteArray) (h1 : 1 ≤ s.size) (h9 : s.size ≤ 9) (hd : inR s 48 57 s.size = true) (w : World) : Calls Tryd.prog 56 #[.string s] w fun e w' => e = .returned (.tuple #[.int .i64 (dv s s.size), .nilIface]) ∧ Below w.heap.size w w' := by
  have hix : ∀ u, (Instr.index 9 (.string s) (.int .i64 0)).run Tryd.prog u = .ok (.int .u8 (bt s 0)) u := fun u => ixC s 0 (by omega) u
  have h0 := inR_at hd 0 (by omega)
  obtain ⟨x0, ex0⟩ : ∃ x, x = bt s 0 := ⟨_, rfl⟩
  rw [← ex0] at hix h0
  obtain ⟨g0, g1⟩ := h0
  have e1 : (x0 == 45) = false := by have : ¬ (x0 = 45) := by omega
                                     simp [this]
  have e2 : (x0 == 43) = false := by have : ¬ (x0 = 43) := by omega
                                     simp [this]
  obtain ⟨C, W, hcv, hcell, hbw, hgw⟩ := convB 64 Tryd.underlying64 w s
  obtain ⟨N, eN⟩ : ∃ N, N = dv s s.size := ⟨_, rfl⟩
  rw [← eN]
  have H : Hid _ := And.intro hcell (And.intro hbw (And.intro hd eN))
  clear hcell hbw hd eN ex0
  go_enter Tryd.func56, Tryd.ntmps56
  go_wp2
  go_loopw [6, 49] (fun a i wr => ∃ k : Nat, k ≤ s.size ∧ i = .int .i64 (k : Int) ∧ a = .int .i64 (dv s k) ∧ wr = W) (fun _ i _ => s.size - (intOf i).toNat)
  case atStart => exact ⟨0, by omega, rfl, rfl, rfl⟩
  case round =>
    obtain ⟨k, hk, rfl, rfl, rfl⟩ := hrel
    by_cases hlt : k < s.size
    · have c0 := H.out.1 wr (Below.refl _ _) k hlt
      have hx := inR_at H.out.2.2.1 k hlt
      have hpre : inR s 48 57 k = true := List.all_eq_true.2 fun i hi => by have := inR_at H.out.2.2.1 i (by have := List.mem_range.1 hi; omega); exact decide_eq_true this
      have b0 := dv_nn s k hpre
      have b1 := dv_bd s k hpre (by omega)
      have hsu : dv s (k + 1) = 10 * dv s k + (bt s k - 48) := rfl
      obtain ⟨x, ex⟩ : ∃ x, x = bt s k := ⟨_, rfl⟩
      obtain ⟨D, eD⟩ : ∃ D, D = dv s k := ⟨_, rfl⟩
      rw [← ex] at c0 hx hsu
      rw [← eD] at b0 b1 hsu ⊢
      obtain ⟨x1, x2⟩ := hx
      have y1 : ¬ (9 < x - 48) := by omega
      have HR : Hid _ := And.intro hsu True.intro
      clear hsu hpre ex eD
      go_wp2
      go_roundw
      case rel => exact ⟨k + 1, by omega, by go_num, by rw [HR.out.1]; congr 1; omega, by first | rfl | trivial⟩
      case measure => simp [intOf]; omega
    · obtain rfl : k = s.size := by omega
      have HF : Hid (N = dv s s.size) := H.out.2.2.2
      generalize dv s s.size = D at *
      go_wp2
      (try simp only [Exit.inBlock, Exit.then])
      refine bodyPost_ret (results_tmp2 rfl _ _ _) rfl ?_
      exact ⟨by rw [HF.out]; rfl, H.out.2.1⟩
end Go.Proofs.YtdjflbanbhhniaaDoor
