import Derived.Test.YtpbkigmcbgbfgaaDoorDigits
import Derived.Test.YtpbkigmcbgbfgaaDoorAppRow
namespace Go.Proofs.YtpbkigmcbgbfgaaDoor
open Go.RowKit
set_option linter.unusedVariables false

set_option maxHeartbeats 1000000 in
theorem fillC (n : Nat) (hn : n ≤ 2000) (h1 : 1 ≤ n) (w : World) :
    Calls Tryd.prog 11 #[.int .u8 32, .int .i64 (n : Int)] w fun e w' => ∃ (r : Value) (ys : List Int), e = .returned r ∧ Row w' .u8 r ys ∧ ys.length = n ∧ Below w.heap.size w w' := by
  obtain ⟨i9, hi, hz0, hz1, hz2⟩ := info_parts infoU8
  have hn0 : (0 : Int) < n := by omega
  have hn3 : ¬ (n : Int) ≤ 0 := by omega
  have hn4 : ¬ (n : Int) < 0 := by omega
  go_enter Tryd.func11, Tryd.ntmps11
  go_wp2_with (at_make; refine wpList_make_full _ rfl _ _ 22 rfl w.heap.size 5 i9 (.int .u8 0) 1 Tryd.underlying22 hi hz0 hz1 .i64 .i64 (n : Int) (n : Int) n rfl rfl rfl rfl (by rw [hz2]; omega) (by unfold maxLen; omega) (Nat.le_refl _) ?_; intro w1 hown hg; have H1 : Hid _ := And.intro (made_zero hown) ((Below.refl w.heap.size w).grown hg (Nat.le_refl _) (fun k hk => by cases hk)); clear hown hg)
  go_loopw [6] (fun i wr => ∃ (j : Nat) (zs : List Int), j ≤ n ∧ i = .int .i64 (j : Int) ∧ zs.length = n ∧ wr.ownsRow w.heap.size 5 1 (.slice (some ⟨w.heap.size, 0, none⟩) n n) n (zs.map (Value.int .u8)) ∧ Below w.heap.size w wr) (fun i _ => n - (intOf i).toNat)
  case atStart => exact ⟨0, List.replicate n 0, by omega, rfl, by simp, H1.out.1, H1.out.2⟩
  case round =>
    obtain ⟨j, zs, hj, rfl, hzl, ow, hb⟩ := hrel
    by_cases hlt : j < n
    · have hlt' : (j : Int) < n := by omega
      obtain ⟨ys, y1, y2, y3, y4⟩ := fill_step (f := fun k => if k = j then 32 else zs.getD k 0) (x := 32) (w := w) (B := w.heap.size) (by simp) hzl hlt (fun k hk => by simp [Nat.ne_of_lt hk]) ow hb (Nat.le_refl _)
      have hjz : j < n * 1 := by omega
      have c0 : wr.cell? ⟨w.heap.size, j, none⟩ = (zs.map (Value.int .u8))[j]? := ow.cellAt j hjz
      obtain ⟨z, hz⟩ : ∃ z, (zs.map (Value.int .u8))[j]? = some z := ⟨_, List.getElem?_eq_getElem (by rw [List.length_map, hzl]; exact hlt)⟩
      rw [hz] at c0
      have f0 := ow.frozenAt j
      have HF : Hid _ := And.intro y1 (And.intro y3 y4)
      clear y1 y2 y3 y4 hz ow hb
      go_wp2
      go_roundw
      case rel => exact ⟨j + 1, ys, by omega, by go_num, HF.out.1, HF.out.2.1, HF.out.2.2⟩
      case measure => simp [intOf]; omega
    · have hnl : ¬ (j : Int) < n := by omega
      have HF : Hid _ := And.intro (row_of_owns ow) (And.intro hzl hb)
      clear ow hb hzl
      go_wp2
      go_ret
      exact ⟨_, rfl, zs, HF.out.1, HF.out.2.1, HF.out.2.2⟩
end Go.Proofs.YtpbkigmcbgbfgaaDoor
