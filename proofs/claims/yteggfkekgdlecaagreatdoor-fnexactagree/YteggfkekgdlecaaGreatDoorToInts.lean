import Derived.Test.YteggfkekgdlecaaGreatDoorMem
namespace Go.Proofs.YteggfkekgdlecaaGreatDoor
open Go.RowKit
set_option linter.unusedVariables false

theorem infoInt : (Tryz.prog.info? 3).map (fun i => (i.zero, i.size, i.bytes)) = some (some (.int .i64 0), 1, 8) := by kernel_rfl

theorem toInts_nil (v : Value) (w : World) (h : Row w .i64 v []) :
    Calls Tryz.prog 26 #[v] w fun e w' => ∃ r, e = .returned r ∧ w'.ownsRow w.heap.size 3 1 r 0 (([] : List Int).map (Value.int .i64)) ∧ Below w.heap.size w w' := by
  obtain ⟨ao, ca, rfl⟩ := h.form
  clear h
  obtain ⟨i0, hi, hz0, hz1, hz2⟩ := info_parts infoInt
  go_enter Tryz.func26, Tryz.ntmps26
  go_wp2_with (at_make; refine wpList_make_full _ rfl _ _ 23 rfl w.heap.size 3 i0 (.int .i64 0) 1 Tryz.underlying23 hi hz0 hz1 .i64 .i64 0 0 0 rfl rfl rfl rfl (by omega) (by decide) (Nat.le_refl _) ?_; intro w1 hown hg)
  refine wp_loop_rounds 1 ?_
  rw [rounds_succ]
  go_wp2
  go_ret
  exact ⟨_, rfl, made_zero hown, (Below.refl _ _).grown hg (Nat.le_refl _) (by intro k hk; cases hk)⟩

set_option maxHeartbeats 400000 in
theorem toInts_core (n : Nat) (xs : List Int) (b off cap : Nat) (w : World) (hn : n ≤ 17592186044416) (hl : xs.length = n) (hb : b < w.heap.size)
    (hc : ∀ j, j < n → w.cell? ⟨b, off + j, none⟩ = some (.int .i64 (xs.getD j 0))) :
    Calls Tryz.prog 26 #[.slice (some ⟨b, off, none⟩) n cap] w fun e w' => ∃ r, e = .returned r ∧ w'.ownsRow w.heap.size 3 1 r n (xs.map (Value.int .i64)) ∧ Below w.heap.size w w' := by
  have HC : Hid (∀ j, j < n → w.cell? ⟨b, off + j, none⟩ = some (.int .i64 (xs.getD j 0))) := hc
  have HL : Hid (xs.length = n) := hl
  clear hc hl
  obtain ⟨i0, hi, hz0, hz1, hz2⟩ := info_parts infoInt
  go_enter Tryz.func26, Tryz.ntmps26
  go_wp2_with (at_make; refine wpList_make_full _ rfl _ _ 23 rfl w.heap.size 3 i0 (.int .i64 0) 1 Tryz.underlying23 hi hz0 hz1 .i64 .i64 (n : Int) (n : Int) n rfl rfl rfl rfl (by rw [hz2]; omega) (by unfold maxLen; omega) (Nat.le_refl _) ?_; intro w1 hown hg)
  go_loopw [4] (fun i wr => ∃ k : Nat, k ≤ n ∧ i = .int .i64 k ∧ ∃ zs : List Int, zs.length = n ∧ (∀ j, j < k → zs.getD j 0 = xs.getD j 0) ∧
      wr.ownsRow w.heap.size 3 1 (.slice (some ⟨w.heap.size, 0, none⟩) n n) n (zs.map (Value.int .i64)) ∧ Below w.heap.size w wr) (fun i _ => n - (intOf i).toNat)
  case atStart =>
    exact ⟨0, Nat.zero_le _, rfl, List.replicate n 0, by simp, fun j h => by omega, made_zero hown, (Below.refl _ _).grown hg (Nat.le_refl _) (by intro k hk; cases hk)⟩
  case round =>
    obtain ⟨k, hk, rfl, zs, hl, hm, hown', hb'⟩ := hrel
    by_cases hlt : k < n
    · have c0 : wr.cell? ⟨b, off + k, none⟩ = some (.int .i64 (xs.getD k 0)) := (hb'.cell (p := ⟨b, off + k, none⟩) hb).trans (HC.out k hlt)
      have f1 := hown'.frozenAt k
      have c1 := owns_cell hown' hl hlt
      obtain ⟨x, hx⟩ : ∃ x, x = xs.getD k 0 := ⟨_, rfl⟩
      have R := fill_step (x := x) (f := fun j => xs.getD j 0) hx hl hlt hm hown' hb' (Nat.le_refl _)
      rw [← hx] at c0
      generalize zs.getD k 0 = u at c1
      clear hl hm hown' hb' hown hg hx
      obtain ⟨ys, R⟩ := R
      have HR : Hid _ := R
      clear R
      go_wp2
      go_roundw
      case rel =>
        obtain ⟨r1, r2, r3, r4⟩ := HR.out
        exact ⟨k + 1, by omega, by go_num, ys, r1, r2, r3, r4⟩
      case measure => simp [intOf]; omega
    · have HR : Hid _ := And.intro hl (And.intro hm (And.intro hown' hb'))
      clear hl hm hown' hb' hown hg
      go_wp2
      go_ret
      obtain rfl : k = n := by omega
      obtain ⟨r1, r2, r3, r4⟩ := HR.out
      obtain rfl : zs = xs := list_eq_of_getD r1 HL.out r2
      exact ⟨_, rfl, r3, r4⟩

theorem toInts (v : Value) (xs : List Int) (w : World) (h : Row w .i64 v xs) (hn : xs.length ≤ 17592186044416) :
    Calls Tryz.prog 26 #[v] w fun e w' => ∃ r, e = .returned r ∧ w'.ownsRow w.heap.size 3 1 r xs.length (xs.map (Value.int .i64)) ∧ Below w.heap.size w w' := by
  by_cases h0 : 0 < xs.length
  · obtain ⟨b, off, ca, rfl, hb, hc⟩ := h.at h0
    exact toInts_core xs.length xs b off ca w hn rfl hb hc
  · obtain rfl : xs = [] := List.eq_nil_of_length_eq_zero (by omega)
    exact toInts_nil v w h
end Go.Proofs.YteggfkekgdlecaaGreatDoor
