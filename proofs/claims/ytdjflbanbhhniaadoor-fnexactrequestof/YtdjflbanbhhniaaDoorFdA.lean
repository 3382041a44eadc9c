import Derived.Test.YtdjflbanbhhniaaDoorMem
import Derived.Laws.RangeAny
import Derived.Laws.RangeString
import Derived.Deep.CutRange
namespace Go.Proofs.YtdjflbanbhhniaaDoor
open Go.RowKit
set_option linter.unusedVariables false

/-- The byte of a text at a place. -/
def bt (s : ByteArray) (i : Nat) : Int := if h : i < s.size then ((s[i]'h).toNat : Int) else 0
theorem bt_at (s : ByteArray) (i : Nat) (h : i < s.size) : ((s[i]'h).toNat : Int) = bt s i := by simp [bt, h]
theorem bt_bd (s : ByteArray) (i : Nat) : 0 ≤ bt s i ∧ bt s i < 256 := by
  unfold bt
  split
  · rename_i h; have := (s[i]'h).toNat_lt; omega
  · omega
/-- A byte that may stand in a name; one that may stand in a value. -/
def nb (x : Int) : Bool := decide (33 ≤ x ∧ x ≤ 126 ∧ ¬ (65 ≤ x ∧ x ≤ 90))
def vb (x : Int) : Bool := decide (x ≠ 0 ∧ x ≠ 10 ∧ x ≠ 13)
def nAll (s : ByteArray) (n : Nat) : Bool := (List.range n).all fun i => nb (bt s i)
def vAll (s : ByteArray) (n : Nat) : Bool := (List.range n).all fun i => vb (bt s i)
def nOK (s : ByteArray) : Bool := decide (1 ≤ s.size ∧ s.size ≤ 64) && nAll s s.size
def vOK (s : ByteArray) : Bool := decide (s.size ≤ 1024) && vAll s s.size
theorem nAll_succ (s : ByteArray) (n : Nat) : nAll s (n + 1) = (nAll s n && nb (bt s n)) := by simp [nAll, List.range_succ]
theorem vAll_succ (s : ByteArray) (n : Nat) : vAll s (n + 1) = (vAll s n && vb (bt s n)) := by simp [vAll, List.range_succ]
theorem nAll_no (s : ByteArray) (n i : Nat) (h : i < n) (hb : nb (bt s i) = false) : nAll s n = false := by
  cases e : nAll s n with
  | false => rfl
  | true =>
    rw [nAll, List.all_eq_true] at e
    have := e i (List.mem_range.2 h)
    rw [hb] at this; cases this
theorem vAll_no (s : ByteArray) (n i : Nat) (h : i < n) (hb : vb (bt s i) = false) : vAll s n = false := by
  cases e : vAll s n with
  | false => rfl
  | true =>
    rw [vAll, List.all_eq_true] at e
    have := e i (List.mem_range.2 h)
    rw [hb] at this; cases this
theorem iter_below (w : World) (s : ByteArray) (p : Nat) : Below w.heap.size w (w.iter s p) := (Below.refl _ _).alloc (Nat.le_refl _) _
theorem nameI (s : ByteArray) (w : World) (hm : s.size ≤ 9223372036854775807) : Calls Tryd.prog 52 #[.string s] w fun e w' => e = .returned (.bool (nOK s)) ∧ Below w.heap.size w w' := by
  by_cases hs : 1 ≤ s.size ∧ s.size ≤ 64
  · have en : nOK s = nAll s s.size := by simp [nOK, hs]
    rw [en]
    obtain ⟨h1, h2⟩ := hs
    obtain ⟨N, eN⟩ : ∃ N, N = nAll s s.size := ⟨_, rfl⟩
    rw [← eN]
    have HN : Hid (N = nAll s s.size) := eN
    clear en hm eN
    go_enter Tryd.func52, Tryd.ntmps52
    go_wp2
    go_loopw [4] (fun _ w' => ∃ pos : Nat, pos ≤ s.size ∧ w' = w.iter s pos ∧ nAll s pos = true) (fun _ w' => s.size - w'.iterPos w.heap.size)
    case atStart => exact ⟨0, by omega, rfl, rfl⟩
    case round =>
      obtain ⟨pos, hp0, rfl, hA⟩ := hrel
      by_cases hp : pos < s.size
      · have hnx : ∀ ty, (Instr.next (.pointer (some ⟨w.heap.size, 0, none⟩)) true ty).run Tryd.prog (w.iter s pos) = _ := fun ty => run_next_any w s pos ty hp
        by_cases ha : (s[pos]'hp).toNat < 128
        · rw [decode_ascii s pos hp ha] at hnx
          have eb := bt_at s pos hp
          simp only at hnx
          rw [eb] at hnx
          have hb := bt_bd s pos
          obtain ⟨x, ex⟩ : ∃ x, x = bt s pos := ⟨_, rfl⟩
          have hsu := nAll_succ s pos
          have hno := nAll_no s s.size pos hp
          rw [← ex] at hnx hb hsu hno
          obtain ⟨b0, b1⟩ := hb
          by_cases hnb : nb x = true
          · have hq : 33 ≤ x ∧ x ≤ 126 ∧ ¬ (65 ≤ x ∧ x ≤ 90) := of_decide_eq_true hnb
            obtain ⟨q1, q2, q3⟩ := hq
            have hR0 : nAll s (pos + 1) = true := by rw [hsu, hA, hnb]; rfl
            have HR : Hid (nAll s (pos + 1) = true) := hR0
            clear hR0
            have hd : (decide (65 ≤ x) && decide (x ≤ 90)) = false := by simp; omega
            clear eb ex hsu hno hnb hA ha
            by_cases h65 : 65 ≤ x
            · have h90 : decide (x ≤ 90) = false := decide_eq_false (by omega)
              clear hd q3
              go_wp2
              go_roundw
              case rel => exact ⟨pos + 1, by omega, rfl, HR.out⟩
              case measure => simp; omega
            · have h64 : decide (65 ≤ x) = false := decide_eq_false h65
              clear hd q3
              go_wp2
              go_roundw
              case rel => exact ⟨pos + 1, by omega, rfl, HR.out⟩
              case measure => simp; omega
          · have hnf : nb x = false := by simpa using hnb
            have hF0 : N = false := by rw [HN.out, hno hnf]
            have HF : Hid (N = false) := hF0
            clear hF0
            have hq : ¬ (33 ≤ x ∧ x ≤ 126 ∧ ¬ (65 ≤ x ∧ x ≤ 90)) := of_decide_eq_false hnf
            clear eb ex hsu hno hnb hnf hA ha
            by_cases g1 : x < 33
            · clear hq
              go_wp2
              go_ret
              exact ⟨by rw [HF.out]; rfl, iter_below _ _ _⟩
            · by_cases g2 : 126 < x
              · clear hq
                go_wp2
                go_ret
                exact ⟨by rw [HF.out]; rfl, iter_below _ _ _⟩
              · have g3 : 65 ≤ x := by omega
                have g4 : x ≤ 90 := by omega
                clear hq
                go_wp2
                go_ret
                exact ⟨by rw [HF.out]; rfl, iter_below _ _ _⟩
        · have hd := (decode_high s pos hp (by omega)).1
          have hno := nAll_no s s.size pos hp (by rw [← bt_at s pos hp]; simp [nb]; omega)
          have hF0 : N = false := by rw [HN.out, hno]
          have HF : Hid (N = false) := hF0
          clear hF0
          obtain ⟨c, ec⟩ : ∃ c, c = (Utf8.decode s pos).1 := ⟨_, rfl⟩
          obtain ⟨d, ed⟩ : ∃ d, d = (Utf8.decode s pos).2 := ⟨_, rfl⟩
          rw [← ec] at hd
          rw [← ec, ← ed] at hnx
          clear ec ed hno hA
          have g1 : ¬ (c : Int) < 33 := by omega
          have g2 : (126 : Int) < c := by omega
          go_wp2
          go_ret
          exact ⟨by rw [HF.out]; rfl, iter_below _ _ _⟩
      · have hnx : ∀ ty, (Instr.next (.pointer (some ⟨w.heap.size, 0, none⟩)) true ty).run Tryd.prog (w.iter s pos) = _ := fun ty => run_next_end w s pos ty hp
        obtain rfl : pos = s.size := by omega
        have hF0 : N = true := by rw [HN.out, hA]
        have HF : Hid (N = true) := hF0
        clear hF0
        clear hA
        go_wp2
        go_ret
        exact ⟨by rw [HF.out]; rfl, iter_below _ _ _⟩
  · have en : nOK s = false := by simp [nOK, hs]
    rw [en]
    by_cases h1 : s.size < 1
    · clear hs en
      go_enter Tryd.func52, Tryd.ntmps52
      go_wp2
      go_ret
      exact ⟨rfl, Below.refl _ _⟩
    · have h2 : 64 < s.size := by omega
      clear hs en
      go_enter Tryd.func52, Tryd.ntmps52
      go_wp2
      go_ret
      exact ⟨rfl, Below.refl _ _⟩
theorem ixC (s : ByteArray) (k : Nat) (h : k < s.size) (u : World) : (Instr.index 9 (.string s) (.int .i64 (k : Int))).run Tryd.prog u = .ok (.int .u8 (bt s k)) u := by
  rw [run_index_string u 9 s .i64 (k : Int) Tryd.underlying9]
  rw [dif_pos (by omega)]
  congr 2
  rw [← bt_at s k h]
  simp
theorem valueI (s : ByteArray) (w : World) (hm : s.size ≤ 9223372036854775807) : Calls Tryd.prog 50 #[.string s] w fun e w' => e = .returned (.bool (vOK s)) ∧ w' = w := by
  by_cases hs : s.size ≤ 1024
  · have en : vOK s = vAll s s.size := by simp [vOK, hs]
    rw [en]
    obtain ⟨N, eN⟩ : ∃ N, N = vAll s s.size := ⟨_, rfl⟩
    rw [← eN]
    have HN : Hid (N = vAll s s.size) := eN
    clear en hm eN
    go_enter Tryd.func50, Tryd.ntmps50
    go_wp2
    go_loop [9] (fun i => ∃ k : Nat, k ≤ s.size ∧ i = .int .i64 (k : Int) ∧ vAll s k = true) (fun i => s.size - (intOf i).toNat)
    case atStart => exact ⟨0, by omega, rfl, rfl⟩
    case round =>
      obtain ⟨k, hk, rfl, hA⟩ := hrel
      by_cases hlt : k < s.size
      · have hix := ixC s k hlt
        have hno := vAll_no s s.size k hlt
        have hsu := vAll_succ s k
        obtain ⟨x, ex⟩ : ∃ x, x = bt s k := ⟨_, rfl⟩
        have hb := bt_bd s k
        rw [← ex] at hix hno hsu hb
        obtain ⟨b0, b1⟩ := hb
        by_cases hv : vb x = true
        · have hq : x ≠ 0 ∧ x ≠ 10 ∧ x ≠ 13 := of_decide_eq_true hv
          obtain ⟨q0, q1, q2⟩ := hq
          have r0 : (x == 0) = false := by simpa using q0
          have r1 : (x == 10) = false := by simpa using q1
          have r2 : (x == 13) = false := by simpa using q2
          have hR0 : vAll s (k + 1) = true := by rw [hsu, hA, hv]; rfl
          have HR : Hid (vAll s (k + 1) = true) := hR0
          clear hR0 hA hno hsu hv ex q0 q1 q2
          go_wp2
          go_round
          case rel => exact ⟨k + 1, by omega, by go_num, HR.out⟩
          case measure => simp [intOf]; omega
        · have hvf : vb x = false := by simpa using hv
          have hF0 : N = false := by rw [HN.out, hno hvf]
          have HF : Hid (N = false) := hF0
          have hq : x = 0 ∨ x = 10 ∨ x = 13 := by have := of_decide_eq_false hvf; omega
          clear hF0 hno hsu hv hvf ex hA b0 b1
          rcases hq with rfl | rfl | rfl
          · go_wp2
            go_ret
            exact ⟨by rw [HF.out]; rfl, rfl⟩
          · go_wp2
            go_ret
            exact ⟨by rw [HF.out]; rfl, rfl⟩
          · go_wp2
            go_ret
            exact ⟨by rw [HF.out]; rfl, rfl⟩
      · obtain rfl : k = s.size := by omega
        have hF0 : N = true := by rw [HN.out, hA]
        have HF : Hid (N = true) := hF0
        clear hF0 hA
        go_wp2
        go_ret
        exact ⟨by rw [HF.out]; rfl, rfl⟩
  · have en : vOK s = false := by simp [vOK, hs]
    rw [en]
    have h2 : 1024 < s.size := by omega
    clear hs en
    go_enter Tryd.func50, Tryd.ntmps50
    go_wp2
    go_ret
    exact ⟨rfl, rfl⟩
def fOK (n v : ByteArray) : Bool := nOK n && vOK v
end Go.Proofs.YtdjflbanbhhniaaDoor
