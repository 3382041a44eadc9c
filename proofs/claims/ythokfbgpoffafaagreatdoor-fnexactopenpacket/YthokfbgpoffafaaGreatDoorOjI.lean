import Derived.Test.YthokfbgpoffafaaGreatDoorMem
import Derived.Test.YthokfbgpoffafaaGreatDoorOjA
import Derived.Test.YthokfbgpoffafaaGreatDoorKeys
import Derived.Test.YthokfbgpoffafaaGreatDoorBook
import Derived.Deep.RegionWith
import Derived.Deep.CutRange
import Derived.Test.YthokfbgpoffafaaGreatDoorBlocks
import Derived.Laws.Rows
namespace Go.Proofs.YthokfbgpoffafaaGreatDoor
open Go.RowKit
set_option linter.unusedVariables false

theorem eqBytes_len (va vb : Value) (xs ys : List Int) (w : World) (ha : Row w .u8 va xs) (hb : Row w .u8 vb ys) (hx : xs.length ≤ 140737488355328) (hy : ys.length ≤ 140737488355328) (hn : xs.length ≠ ys.length) :
    Calls Tryz.prog 10 #[va, vb] w fun e w' => e = .returned (.bool false) ∧ ∃ n, w' = w.drewN n := by
  obtain ⟨ao, ca, rfl⟩ := ha.form
  obtain ⟨bo, cb, rfl⟩ := hb.form
  have ht : (((xs.length : Nat) : Int) != ((ys.length : Nat) : Int)) = true := by simp; omega
  clear ha hb hn
  generalize xs.length = n at *
  generalize ys.length = m at *
  go_enter Tryz.func10, Tryz.ntmps10
  go_wp2
  go_ret
  exact ⟨rfl, 0, rfl⟩

theorem eqBytes_nil (va vb : Value) (w : World) (ha : Row w .u8 va []) (hb : Row w .u8 vb []) :
    Calls Tryz.prog 10 #[va, vb] w fun e w' => e = .returned (.bool true) ∧ ∃ n, w' = w.drewN n := by
  obtain ⟨ao, ca, rfl⟩ := ha.form
  obtain ⟨bo, cb, rfl⟩ := hb.form
  clear ha hb
  go_enter Tryz.func10, Tryz.ntmps10
  go_wp2
  refine wp_loop_rounds 1 ?_
  rw [rounds_succ]
  go_wp2
  go_ret
  exact ⟨rfl, 0, rfl⟩

set_option maxHeartbeats 400000 in
theorem eqBytes_core (n : Nat) (xs ys : Nat → Int) (b off ca b' off' cb : Nat) (w : World) (hn : n ≤ 140737488355328)
    (hca : ∀ j, j < n → w.cell? ⟨b, off + j, none⟩ = some (.int .u8 (xs j))) (hcb : ∀ j, j < n → w.cell? ⟨b', off' + j, none⟩ = some (.int .u8 (ys j))) :
    Calls Tryz.prog 10 #[.slice (some ⟨b, off, none⟩) n ca, .slice (some ⟨b', off', none⟩) n cb] w fun e w' => (∃ t, e = .returned (.bool t) ∧ (t = true ↔ ∀ j, j < n → xs j = ys j)) ∧ ∃ m, w' = w.drewN m := by
  have HA : Hid (∀ j, j < n → w.cell? ⟨b, off + j, none⟩ = some (.int .u8 (xs j))) := hca
  have HB : Hid (∀ j, j < n → w.cell? ⟨b', off' + j, none⟩ = some (.int .u8 (ys j))) := hcb
  clear hca hcb
  go_enter Tryz.func10, Tryz.ntmps10
  go_wp2
  go_loopw [5] (fun i wr => ∃ k m : Nat, k ≤ n ∧ i = .int .i64 k ∧ wr = w.drewN m ∧ ∀ j, j < k → xs j = ys j) (fun i _ => n - (intOf i).toNat)
  case atStart => exact ⟨0, 0, Nat.zero_le _, rfl, rfl, fun j h => by omega⟩
  case round =>
    obtain ⟨k, m, hk, rfl, rfl, heq⟩ := hrel
    have HE : Hid (∀ j, j < k → xs j = ys j) := heq
    clear heq
    by_cases hlt : k < n
    · have c1 := HA.out k hlt
      have c2 := HB.out k hlt
      obtain ⟨x, hx⟩ : ∃ x, x = xs k := ⟨_, rfl⟩
      obtain ⟨y, hy⟩ : ∃ y, y = ys k := ⟨_, rfl⟩
      rw [← hx] at c1
      rw [← hy] at c2
      have HX : Hid (x = xs k ∧ y = ys k) := ⟨hx, hy⟩
      clear hx hy
      by_cases hxy : x = y
      · have HXY : Hid (x = y) := hxy
        have ht : (x != y) = false := by simp [hxy]
        clear hxy
        go_wp2
        go_quiet (fail)
        go_wp2
        go_roundw
        case rel =>
          refine ⟨k + 1, _, by omega, by go_num, rfl, fun j hj => ?_⟩
          by_cases hjk : j < k
          · exact HE.out j hjk
          · obtain rfl : j = k := by omega
            rw [← HX.out.1, ← HX.out.2, HXY.out]
        case measure => simp [intOf]; omega
      · have HXY : Hid (¬ x = y) := hxy
        have ht : (x != y) = true := by simp [hxy]
        clear hxy
        go_wp2
        go_quiet (fail)
        go_wp2
        go_ret
        refine ⟨⟨false, rfl, ?_⟩, _, World.drewN_drewN ..⟩
        constructor
        · intro h; cases h
        · intro h; exact absurd (by rw [HX.out.1, HX.out.2]; exact h k hlt) HXY.out
    · go_wp2
      go_ret
      exact ⟨⟨true, rfl, fun _ j hj => HE.out j (by omega), fun _ => rfl⟩, m, rfl⟩

theorem eqBytes (va vb : Value) (xs ys : List Int) (w : World) (ha : Row w .u8 va xs) (hb : Row w .u8 vb ys) (hx : xs.length ≤ 140737488355328) (hy : ys.length ≤ 140737488355328) :
    Calls Tryz.prog 10 #[va, vb] w fun e w' => e = .returned (.bool (decide (xs = ys))) ∧ ∃ n, w' = w.drewN n := by
  by_cases hl : xs.length = ys.length
  · by_cases h0 : 0 < xs.length
    · obtain ⟨b, off, ca, rfl, _, hca⟩ := ha.at h0
      obtain ⟨b', off', cb, rfl, _, hcb⟩ := hb.at (by omega)
      have := eqBytes_core xs.length (fun j => xs.getD j 0) (fun j => ys.getD j 0) b off ca b' off' cb w hx hca (fun j hj => hcb j (by omega))
      rw [← hl]
      refine this.mono ?_
      rintro e w' ⟨⟨t, rfl, ht⟩, hw⟩
      refine ⟨?_, hw⟩
      have : t = decide (xs = ys) := by
        rw [Bool.eq_iff_iff, ht, decide_eq_true_eq]
        constructor
        · intro h
          apply List.ext_getElem hl
          intro i h1 h2
          have := h i h1
          simpa [List.getD, h1, h2] using this
        · rintro rfl j _; rfl
      rw [this]
    · obtain rfl : xs = [] := List.eq_nil_of_length_eq_zero (by omega)
      obtain rfl : ys = [] := List.eq_nil_of_length_eq_zero (by simpa using hl.symm)
      exact eqBytes_nil va vb w ha hb
  · have e : decide (xs = ys) = false := by
      rw [decide_eq_false_iff_not]; rintro rfl; exact hl rfl
    rw [e]
    exact eqBytes_len va vb xs ys w ha hb hx hy hl

theorem eqBytes_same (va vb : Value) (xs : List Int) (w : World) (ha : Row w .u8 va xs) (hb : Row w .u8 vb xs) (hx : xs.length ≤ 140737488355328) :
    Calls Tryz.prog 10 #[va, vb] w fun e w' => e = .returned (.bool true) ∧ ∃ n, w' = w.drewN n := by
  refine (eqBytes va vb xs xs w ha hb hx hx).mono ?_
  rintro e w' ⟨rfl, h⟩
  exact ⟨by simp, h⟩
end Go.Proofs.YthokfbgpoffafaaGreatDoor

namespace Go.Proofs.YthokfbgpoffafaaGreatDoor
open Go.RowKit
set_option linter.unusedVariables false

theorem held_nil (k : Int) (v : Value) (w : World) (h : Row w .u8 v []) :
    Calls Tryz.prog 16 #[v, .int .i64 k] w fun e w' => e = .returned (.int .i64 k) ∧ w' = w := by
  obtain ⟨ao, ca, rfl⟩ := h.form
  clear h
  go_enter Tryz.func16, Tryz.ntmps16
  go_wp2
  refine wp_loop_rounds 1 ?_
  rw [rounds_succ]
  go_wp2
  go_ret
  exact ⟨rfl, rfl⟩

set_option maxHeartbeats 400000 in
theorem held_core (q : Int) (n : Nat) (b off ca : Nat) (w : World) (hn : n ≤ 140737488355328) (hq0 : 0 ≤ q) (hq1 : q ≤ 140737488355328)
    (hc : ∀ j, j < n → w.cell? ⟨b, off + j, none⟩ = some (.int .u8 ((q + (j : Int)) % 256))) :
    Calls Tryz.prog 16 #[.slice (some ⟨b, off, none⟩) n ca, .int .i64 q] w fun e w' => e = .returned (.int .i64 (q + n)) ∧ w' = w := by
  have HC : Hid (∀ j, j < n → w.cell? ⟨b, off + j, none⟩ = some (.int .u8 ((q + (j : Int)) % 256))) := hc
  clear hc
  go_enter Tryz.func16, Tryz.ntmps16
  go_wp2
  go_loop [1, 5] (fun s i => ∃ k : Nat, k ≤ n ∧ i = .int .i64 k ∧ s = .int .i64 (q + k)) (fun _ i => n - (intOf i).toNat)
  case atStart => exact ⟨0, Nat.zero_le _, rfl, by simp⟩
  case round =>
    obtain ⟨k, hk, rfl, rfl⟩ := hrel
    by_cases hlt : k < n
    · have c1 := HC.out k hlt
      go_wp2
      go_round
      case rel => exact ⟨k + 1, by omega, by go_num, by go_num⟩
      case measure => simp [intOf]; omega
    · go_wp2
      go_ret
      obtain rfl : k = n := by omega
      exact ⟨rfl, rfl⟩

theorem heldBytes (q : Int) (n : Nat) (v : Value) (w : World) (h : Row w .u8 v (marks q n)) (hn : n ≤ 140737488355328) (hq0 : 0 ≤ q) (hq1 : q ≤ 140737488355328) :
    Calls Tryz.prog 16 #[v, .int .i64 q] w fun e w' => e = .returned (.int .i64 (q + n)) ∧ w' = w := by
  by_cases h0 : 0 < n
  · obtain ⟨b, off, ca, rfl, _, hc⟩ := h.at (by rw [marks_length]; exact h0)
    rw [marks_length] at hc ⊢
    exact held_core q n b off ca w hn hq0 hq1 (fun j hj => by rw [← marks_at q n j hj]; exact hc j hj)
  · obtain rfl : n = 0 := by omega
    have := held_nil q v w h
    simpa using this

theorem mark_nil (k : Int) (v : Value) (w : World) (h : Row w .u8 v []) :
    Calls Tryz.prog 13 #[v, .int .i64 k] w fun e w' => e = .returned (.int .i64 k) ∧ w' = w := by
  obtain ⟨ao, ca, rfl⟩ := h.form
  clear h
  go_enter Tryz.func13, Tryz.ntmps13
  go_wp2
  refine wp_loop_rounds 1 ?_
  rw [rounds_succ]
  go_wp2
  go_ret
  exact ⟨rfl, rfl⟩

/-- What one store of a round does. -/
theorem mark_step {e0 : Nat} {w wr : World} {base g n cap k : Nat} {q x : Int} {xs : List Int} (hx : x = (q + (k : Int)) % 256)
    (hl : xs.length = n) (hk : k < n) (hm : ∀ j, j < k → xs.getD j 0 = (q + (j : Int)) % 256)
    (hown : wr.ownsRow base e0 1 (.slice (some ⟨g, 0, none⟩) n cap) n (xs.map (Value.int .u8))) (hb : Below base w wr) (hz : wr.heap.size = w.heap.size) (ho : Only (some g) w wr) (hg : base ≤ g) :
    ∃ ys : List Int, ys.length = n ∧ (∀ j, j < k + 1 → ys.getD j 0 = (q + (j : Int)) % 256) ∧ (wr.setCell ⟨g, k, none⟩ (.int .u8 x)).ownsRow base e0 1 (.slice (some ⟨g, 0, none⟩) n cap) n (ys.map (Value.int .u8)) ∧
      Below base w (wr.setCell ⟨g, k, none⟩ (.int .u8 x)) ∧ (wr.setCell ⟨g, k, none⟩ (.int .u8 x)).heap.size = w.heap.size ∧ Only (some g) w (wr.setCell ⟨g, k, none⟩ (.int .u8 x)) := by
  refine ⟨xs.set k x, by simp [hl], fun j hj => ?_, ?_, hb.setCell hg _, by simp [World.setCell, hz], ho.trans (Only.setCell ⟨g, k, none⟩ _)⟩
  · by_cases e : j = k
    · subst e
      simp [List.getD, hl, hk, hx]
    · have := hm j (by omega)
      simp only [List.getD, List.getElem?_set] at this ⊢
      rw [if_neg (by omega)]
      exact this
  · have := (hown.stored k (.int .u8 x)).1
    rwa [← List.map_set] at this

set_option maxHeartbeats 400000 in
theorem mark_core {e0 : Nat} (q : Int) (n : Nat) (base g cap : Nat) (xs : List Int) (w : World) (hn : n ≤ 140737488355328) (hq0 : 0 ≤ q) (hq1 : q ≤ 140737488355328) (hg : base ≤ g) (hl0 : xs.length = n)
    (hown0 : w.ownsRow base e0 1 (.slice (some ⟨g, 0, none⟩) n cap) n (xs.map (Value.int .u8))) :
    Calls Tryz.prog 13 #[.slice (some ⟨g, 0, none⟩) n cap, .int .i64 q] w fun e w' => e = .returned (.int .i64 (q + n)) ∧
      (∃ ys : List Int, ys.length = n ∧ (∀ j, j < n → ys.getD j 0 = (q + (j : Int)) % 256) ∧ w'.ownsRow base e0 1 (.slice (some ⟨g, 0, none⟩) n cap) n (ys.map (Value.int .u8))) ∧ Below base w w' ∧ w'.heap.size = w.heap.size ∧ Only (some g) w w' := by
  go_enter Tryz.func13, Tryz.ntmps13
  go_wp2
  go_loopw [1, 5] (fun s i wr => ∃ k : Nat, k ≤ n ∧ i = .int .i64 k ∧ s = .int .i64 (q + k) ∧ ∃ zs : List Int, zs.length = n ∧ (∀ j, j < k → zs.getD j 0 = (q + (j : Int)) % 256) ∧
      wr.ownsRow base e0 1 (.slice (some ⟨g, 0, none⟩) n cap) n (zs.map (Value.int .u8)) ∧ Below base w wr ∧ wr.heap.size = w.heap.size ∧ Only (some g) w wr) (fun _ i _ => n - (intOf i).toNat)
  case atStart => exact ⟨0, Nat.zero_le _, rfl, by simp, xs, hl0, fun j h => by omega, hown0, Below.refl _ _, rfl, Only.refl _ _⟩
  case round =>
    obtain ⟨k, hk, rfl, rfl, zs, hl, hm, hown, hb, hz, ho⟩ := hrel
    by_cases hlt : k < n
    · have R := mark_step (x := (q + (k : Int)) % 256) rfl hl hlt hm hown hb hz ho hg
      have f1 := hown.frozenAt k
      have c1 : ∃ u, wr.cell? ⟨g, k, none⟩ = some u := by
        have := hown.cellAt k (by omega)
        rw [this]
        exact ⟨_, by rw [List.getElem?_map, List.getElem?_eq_getElem (by omega)]; rfl⟩
      obtain ⟨u, c1⟩ := c1
      clear hl hm hown hb hz ho hown0 hl0
      obtain ⟨ys, R⟩ := R
      have HR : Hid _ := R
      clear R
      go_wp2
      go_roundw
      case rel =>
        obtain ⟨r1, r2, r3, r4, r5, r6⟩ := HR.out
        exact ⟨k + 1, by omega, by go_num, by go_num, ys, r1, r2, r3, r4, r5, r6⟩
      case measure => simp [intOf]; omega
    · have HR : Hid _ := And.intro hl (And.intro hm (And.intro hown (And.intro hb (And.intro hz ho))))
      clear hl hm hown hb hz ho hown0 hl0
      go_wp2
      go_ret
      obtain rfl : k = n := by omega
      obtain ⟨r1, r2, r3, r4, r5, r6⟩ := HR.out
      exact ⟨rfl, ⟨zs, r1, r2, r3⟩, r4, r5, r6⟩

theorem markBytes {e0 : Nat} (q : Int) (n base : Nat) (v : Value) (xs : List Int) (w : World) (hn : n ≤ 140737488355328) (hq0 : 0 ≤ q) (hq1 : q ≤ 140737488355328)
    (hown : w.ownsRow base e0 1 v n (xs.map (Value.int .u8))) :
    Calls Tryz.prog 13 #[v, .int .i64 q] w fun e w' => e = .returned (.int .i64 (q + n)) ∧ w'.ownsRow base e0 1 v n ((marks q n).map (Value.int .u8)) ∧ Below base w w' ∧ w'.heap.size = w.heap.size ∧ Only v.ownBlock w w' := by
  have hl : xs.length = n := by simpa using hown.1
  rcases hown.2 with ⟨rfl, h0⟩ | ⟨g, cap, cur, rfl, hg, hh, r⟩
  · subst h0
    obtain rfl : xs = [] := List.eq_nil_of_length_eq_zero hl
    refine (mark_nil q _ w (row_of_owns hown)).mono ?_
    rintro e w' ⟨rfl, rfl⟩
    exact ⟨by simp, hown, Below.refl _ _, rfl, Only.refl _ _⟩
  · refine (mark_core q n base g cap xs w hn hq0 hq1 hg hl hown).mono ?_
    rintro e w' ⟨rfl, ⟨ys, hy, hm, ho⟩, hb, hz, hon⟩
    have : ys = marks q n := by
      apply List.ext_getElem (by rw [hy, marks_length])
      intro i h1 h2
      have e1 := hm i (by omega)
      have e2 := marks_at q n i (by omega)
      simp only [List.getD, List.getElem?_eq_getElem h1, List.getElem?_eq_getElem h2, Option.getD_some] at e1 e2
      rw [e1, e2]
    subst this
    exact ⟨rfl, ho, hb, hz, hon⟩
end Go.Proofs.YthokfbgpoffafaaGreatDoor

namespace Go.Proofs.YthokfbgpoffafaaGreatDoor
open Go.RowKit
set_option linter.unusedVariables false

theorem infoByte : (Tryz.prog.info? 5).map (fun i => (i.zero, i.size, i.bytes)) = some (some (.int .u8 0), 1, 1) := by kernel_rfl

theorem toBytes_nil (v : Value) (w : World) (h : Row w .u8 v []) :
    Calls Tryz.prog 7 #[v] w fun e w' => ∃ r, e = .returned r ∧ w'.ownsRow w.heap.size 5 1 r 0 (([] : List Int).map (Value.int .u8)) ∧ Below w.heap.size w w' := by
  obtain ⟨ao, ca, rfl⟩ := h.form
  clear h
  obtain ⟨i0, hi, hz0, hz1, hz2⟩ := info_parts infoByte
  go_enter Tryz.func7, Tryz.ntmps7
  go_wp2_with (at_make; refine wpList_make_full _ rfl _ _ 22 rfl w.heap.size 5 i0 (.int .u8 0) 1 Tryz.underlying22 hi hz0 hz1 .i64 .i64 0 0 0 rfl rfl rfl rfl (by omega) (by decide) (Nat.le_refl _) ?_; intro w1 hown hg)
  refine wp_loop_rounds 1 ?_
  rw [rounds_succ]
  go_wp2
  go_ret
  exact ⟨_, rfl, made_zero hown, (Below.refl _ _).grown hg (Nat.le_refl _) (by intro k hk; cases hk)⟩

set_option maxHeartbeats 400000 in
theorem toBytes_core (n : Nat) (xs : List Int) (b off cap : Nat) (w : World) (hn : n ≤ 140737488355328) (hl : xs.length = n) (hb : b < w.heap.size)
    (hc : ∀ j, j < n → w.cell? ⟨b, off + j, none⟩ = some (.int .u8 (xs.getD j 0))) :
    Calls Tryz.prog 7 #[.slice (some ⟨b, off, none⟩) n cap] w fun e w' => ∃ r, e = .returned r ∧ w'.ownsRow w.heap.size 5 1 r n (xs.map (Value.int .u8)) ∧ Below w.heap.size w w' := by
  have HC : Hid (∀ j, j < n → w.cell? ⟨b, off + j, none⟩ = some (.int .u8 (xs.getD j 0))) := hc
  have HL : Hid (xs.length = n) := hl
  clear hc hl
  obtain ⟨i0, hi, hz0, hz1, hz2⟩ := info_parts infoByte
  go_enter Tryz.func7, Tryz.ntmps7
  go_wp2_with (at_make; refine wpList_make_full _ rfl _ _ 22 rfl w.heap.size 5 i0 (.int .u8 0) 1 Tryz.underlying22 hi hz0 hz1 .i64 .i64 (n : Int) (n : Int) n rfl rfl rfl rfl (by rw [hz2]; omega) (by unfold maxLen; omega) (Nat.le_refl _) ?_; intro w1 hown hg)
  go_loopw [4] (fun i wr => ∃ k : Nat, k ≤ n ∧ i = .int .i64 k ∧ ∃ zs : List Int, zs.length = n ∧ (∀ j, j < k → zs.getD j 0 = xs.getD j 0) ∧
      wr.ownsRow w.heap.size 5 1 (.slice (some ⟨w.heap.size, 0, none⟩) n n) n (zs.map (Value.int .u8)) ∧ Below w.heap.size w wr) (fun i _ => n - (intOf i).toNat)
  case atStart =>
    exact ⟨0, Nat.zero_le _, rfl, List.replicate n 0, by simp, fun j h => by omega, made_zero hown, (Below.refl _ _).grown hg (Nat.le_refl _) (by intro k hk; cases hk)⟩
  case round =>
    obtain ⟨k, hk, rfl, zs, hl, hm, hown', hb'⟩ := hrel
    by_cases hlt : k < n
    · have c0 : wr.cell? ⟨b, off + k, none⟩ = some (.int .u8 (xs.getD k 0)) := (hb'.cell (p := ⟨b, off + k, none⟩) hb).trans (HC.out k hlt)
      have f1 := hown'.frozenAt k
      have c1 := owns_cell hown' hl hlt
      obtain ⟨x, hx⟩ : ∃ x, x = xs.getD k 0 := ⟨_, rfl⟩
      have R := fill_step (x := x) (f := fun j => xs.getD j 0) hx hl hlt hm hown' hb' (Nat.le_refl _)
      rw [← hx] at c0
      generalize zs.getD k 0 = u at c1
      clear hl hm hown' hb' hown hg hx
      obtain ⟨ys, R⟩ := R
      have HR : Hid _ := R
      clear R
      go_wp2
      go_roundw
      case rel =>
        obtain ⟨r1, r2, r3, r4⟩ := HR.out
        exact ⟨k + 1, by omega, by go_num, ys, r1, r2, r3, r4⟩
      case measure => simp [intOf]; omega
    · have HR : Hid _ := And.intro hl (And.intro hm (And.intro hown' hb'))
      clear hl hm hown' hb' hown hg
      go_wp2
      go_ret
      obtain rfl : k = n := by omega
      obtain ⟨r1, r2, r3, r4⟩ := HR.out
      obtain rfl : zs = xs := list_eq_of_getD r1 HL.out r2
      exact ⟨_, rfl, r3, r4⟩

theorem toBytes (v : Value) (xs : List Int) (w : World) (h : Row w .u8 v xs) (hn : xs.length ≤ 140737488355328) :
    Calls Tryz.prog 7 #[v] w fun e w' => ∃ r, e = .returned r ∧ w'.ownsRow w.heap.size 5 1 r xs.length (xs.map (Value.int .u8)) ∧ Below w.heap.size w w' := by
  by_cases h0 : 0 < xs.length
  · obtain ⟨b, off, ca, rfl, hb, hc⟩ := h.at h0
    exact toBytes_core xs.length xs b off ca w hn rfl hb hc
  · obtain rfl : xs = [] := List.eq_nil_of_length_eq_zero (by omega)
    exact toBytes_nil v w h
end Go.Proofs.YthokfbgpoffafaaGreatDoor

namespace Go.Proofs.YthokfbgpoffafaaGreatDoor
open Go.RowKit
set_option linter.unusedVariables false

set_option maxRecDepth 20000 in
set_option maxHeartbeats 1000000 in
theorem eqHead_same (va vb : Value) (h : H8) (w : World) (ha : HRow w va h) (hb : HRow w vb h) (hs : h.small 140737488355328) :
    Calls Tryz.prog 9 #[va, vb] w fun e w' => e = .returned (.bool true) ∧ Below w.heap.size w w' := by
  obtain ⟨f, v, d, s, t, n, l, p⟩ := h
  obtain ⟨u0, u1, u2, rfl, p0, p1, p2⟩ := ha
  obtain ⟨v0, v1, v2, rfl, q0, q1, q2⟩ := hb
  have WB : ∀ (o1 o2 : Obj) (n : Nat), Below w.heap.size w (((w.alloc o1).alloc o2).drewN n) := fun o1 o2 n => below_drewN (((Below.refl _ _).alloc (Nat.le_refl _) o1).alloc (by simp) o2) n
  have WB0 : ∀ (o1 o2 : Obj), Below w.heap.size w ((w.alloc o1).alloc o2) := fun o1 o2 => ((Below.refl _ _).alloc (Nat.le_refl _) o1).alloc (by simp) o2
  have HH : Hid _ := And.intro (And.intro p0 (And.intro p1 p2)) (And.intro (And.intro q0 (And.intro q1 q2)) (And.intro hs (And.intro WB WB0)))
  clear p0 p1 p2 q0 q1 q2 hs WB WB0
  dsimp only at HH ⊢
  have ef : (f != f) = false := by simp
  have ev : (v != v) = false := by simp
  have en : (n != n) = false := by simp
  have el : (l != l) = false := by simp
  have ep : (p != p) = false := by simp
  go_enter Tryz.func9, Tryz.ntmps9
  go_wp2_with fail
  go_at_call 10
  refine (eqBytes_same _ _ d _ (HH.out.1.1.below (HH.out.2.2.2.2 _ _)) (HH.out.2.1.1.below (HH.out.2.2.2.2 _ _)) HH.out.2.2.1.1).mono ?_
  rintro e w0 ⟨rfl, m0, rfl⟩
  go_wp2_with fail
  go_at_call 10
  refine (eqBytes_same _ _ s _ (HH.out.1.2.1.below (HH.out.2.2.2.1 _ _ _)) (HH.out.2.1.2.1.below (HH.out.2.2.2.1 _ _ _)) HH.out.2.2.1.2.1).mono ?_
  rintro e w1 ⟨rfl, m1, rfl⟩
  go_wp2_with fail
  go_at_call 10
  refine (eqBytes_same _ _ t _ (HH.out.1.2.2.below (HH.out.2.2.2.1 _ _ _)) (HH.out.2.1.2.2.below (HH.out.2.2.2.1 _ _ _)) HH.out.2.2.1.2.2).mono ?_
  rintro e w2 ⟨rfl, m2, rfl⟩
  go_wp2
  go_ret
  exact ⟨rfl, HH.out.2.2.2.1 _ _ _⟩
end Go.Proofs.YthokfbgpoffafaaGreatDoor

namespace Go.Proofs.YthokfbgpoffafaaGreatDoor
open Go.RowKit
set_option linter.unusedVariables false

theorem kblk_cell {w : World} {g : Nat} {c : Array Value} {t : TypeId} {fr : Nat × Nat} (h : w.heap[g]? = some (.cells c t fr)) (o : Nat) : w.cell? ⟨g, o, none⟩ = c[o]? := by
  simp [World.cell?, h]
theorem Only.mark {g : Option Nat} {w w' : World} {b : Nat} {o : Obj} (h : Only g w w') (hb : w.heap[b]? = some o) (hne : g ≠ some b) : w'.heap[b]? = some o := (h.block b (fun e => hne e.symm)).trans hb

set_option maxHeartbeats 1000000 in
theorem markKeys (q : Int) (base : Nat) (v : Value) (k : K4) (w : World) (hs : k.small 1048576) (hq0 : 0 ≤ q) (hq1 : q ≤ 140737400000000) (ho : KOwns w base v k) :
    Calls Tryz.prog 12 #[v, .int .i64 q] w fun e w' => e = .returned (.int .i64 (q + (k.a.length : Int) + (k.b.length : Int) + (k.c.length : Int) + (k.d.length : Int))) ∧ KOwns w' base v (k.marked q) ∧ Chg (KBlk v) w w' := by
  obtain ⟨v0, v1, v2, v3, rfl, q0⟩ := ho
  obtain ⟨s0, s1, s2, s3⟩ := hs
  obtain ⟨n0, e0⟩ : ∃ n, n = k.a.length := ⟨_, rfl⟩
  obtain ⟨n1, e1⟩ : ∃ n, n = k.b.length := ⟨_, rfl⟩
  obtain ⟨n2, e2⟩ : ∃ n, n = k.c.length := ⟨_, rfl⟩
  obtain ⟨n3, e3⟩ : ∃ n, n = k.d.length := ⟨_, rfl⟩
  have EK : Hid (k.marked q = ⟨marks q n0, marks (q + (n0 : Int)) n1, marks (q + (n0 : Int) + (n1 : Int)) n2, marks (q + (n0 : Int) + (n1 : Int) + (n2 : Int)) n3⟩) := by rw [e0, e1, e2, e3]; rfl
  have HQ : Hid _ := q0
  have EN : Hid _ := And.intro e0 (And.intro e1 (And.intro e2 e3))
  rw [← e0] at s0 ⊢
  rw [← e1] at s1 ⊢
  rw [← e2] at s2 ⊢
  rw [← e3] at s3 ⊢
  clear e0 e1 e2 e3 q0
  have B0 : (w.alloc (.cells #[v0, v1, v2, v3] 30)).heap[w.heap.size]? = some (.cells #[v0, v1, v2, v3] 30 (0, 0)) := (MapKept.heap_alloc w _).1
  have HB0 : Hid _ := B0
  have WB : Hid (Below w.heap.size w (w.alloc (.cells #[v0, v1, v2, v3] 30))) := (Below.refl _ _).alloc (Nat.le_refl _) _
  clear B0
  go_enter Tryz.func12, Tryz.ntmps12
  go_wp2_with fail
  go_at_call 13
  refine (markBytes q n0 base _ k.a _ (by omega) hq0 (by omega) (by have := owns_below HQ.out.o0 WB.out; rw [← EN.out.1] at this; exact this)).mono ?_
  rintro e w1 ⟨rfl, o1, b1, z1, n1'⟩
  have B1 := n1'.mark HB0.out (fun e => by have := (HQ.out.o0.lt _ e).2; omega)
  have c1 : w1.cell? ⟨w.heap.size, 1, none⟩ = some v1 := by rw [kblk_cell B1]; rfl
  have H1 : Hid _ := And.intro B1 (And.intro o1 n1')
  clear B1 o1 n1' b1 z1
  go_wp2_with fail
  go_at_call 13
  refine (markBytes (q + (n0 : Int)) n1 base _ k.b _ (by omega) (by omega) (by omega) (by have := H1.out.2.2.owns (owns_below HQ.out.o1 WB.out) (fun g hg e => HQ.out.a01 g e.symm hg); rw [← EN.out.2.1] at this; exact this)).mono ?_
  rintro e w2 ⟨rfl, o2, b2, z2, n2'⟩
  have B2 := n2'.mark H1.out.1 (fun e => by have := (HQ.out.o1.lt _ e).2; omega)
  have c2 : w2.cell? ⟨w.heap.size, 2, none⟩ = some v2 := by rw [kblk_cell B2]; rfl
  have H2 : Hid _ := And.intro B2 (And.intro o2 n2')
  clear B2 o2 n2' b2 z2
  go_wp2_with fail
  go_at_call 13
  refine (markBytes (q + (n0 : Int) + (n1 : Int)) n2 base _ k.c _ (by omega) (by omega) (by omega) (by have := H2.out.2.2.owns (H1.out.2.2.owns (owns_below HQ.out.o2 WB.out) (fun g hg e => HQ.out.a02 g e.symm hg)) (fun g hg e => HQ.out.a12 g e.symm hg); rw [← EN.out.2.2.1] at this; exact this)).mono ?_
  rintro e w3 ⟨rfl, o3, b3, z3, n3'⟩
  have B3 := n3'.mark H2.out.1 (fun e => by have := (HQ.out.o2.lt _ e).2; omega)
  have c3 : w3.cell? ⟨w.heap.size, 3, none⟩ = some v3 := by rw [kblk_cell B3]; rfl
  have H3 : Hid _ := And.intro B3 (And.intro o3 n3')
  clear B3 o3 n3' b3 z3
  go_wp2_with fail
  go_at_call 13
  refine (markBytes (q + (n0 : Int) + (n1 : Int) + (n2 : Int)) n3 base _ k.d _ (by omega) (by omega) (by omega) (by have := H3.out.2.2.owns (H2.out.2.2.owns (H1.out.2.2.owns (owns_below HQ.out.o3 WB.out) (fun g hg e => HQ.out.a03 g e.symm hg)) (fun g hg e => HQ.out.a13 g e.symm hg)) (fun g hg e => HQ.out.a23 g e.symm hg); rw [← EN.out.2.2.2] at this; exact this)).mono ?_
  rintro e w4 ⟨rfl, o4, b4, z4, n4'⟩
  have H4 : Hid _ := And.intro o4 n4'
  clear o4 n4' b4 z4
  go_wp2
  go_ret
  refine ⟨rfl, ⟨v0, v1, v2, v3, rfl, ?_⟩, ?_⟩
  · rw [EK.out]
    have x0 := H4.out.2.owns (H3.out.2.2.owns (H2.out.2.2.owns H1.out.2.1 (fun g hg e => HQ.out.a01 g hg e.symm)) (fun g hg e => HQ.out.a02 g hg e.symm)) (fun g hg e => HQ.out.a03 g hg e.symm)
    have x1 := H4.out.2.owns (H3.out.2.2.owns H2.out.2.1 (fun g hg e => HQ.out.a12 g hg e.symm)) (fun g hg e => HQ.out.a13 g hg e.symm)
    have x2 := H4.out.2.owns H3.out.2.1 (fun g hg e => HQ.out.a23 g hg e.symm)
    exact ⟨by rw [marks_length]; exact x0, by rw [marks_length]; exact x1, by rw [marks_length]; exact x2, by rw [marks_length]; exact H4.out.1, HQ.out.a01, HQ.out.a02, HQ.out.a03, HQ.out.a12, HQ.out.a13, HQ.out.a23⟩
  · refine (Chg.of_below WB.out).trans ((Chg.of_only H1.out.2.2 ?_).trans ((Chg.of_only H2.out.2.2 ?_).trans ((Chg.of_only H3.out.2.2 ?_).trans (Chg.of_only H4.out.2 ?_))))
    · exact fun g e => ⟨v0, v1, v2, v3, rfl, Or.inl e⟩
    · exact fun g e => ⟨v0, v1, v2, v3, rfl, Or.inr (Or.inl e)⟩
    · exact fun g e => ⟨v0, v1, v2, v3, rfl, Or.inr (Or.inr (Or.inl e))⟩
    · exact fun g e => ⟨v0, v1, v2, v3, rfl, Or.inr (Or.inr (Or.inr e))⟩

end Go.Proofs.YthokfbgpoffafaaGreatDoor

namespace Go.Proofs.YthokfbgpoffafaaGreatDoor
open Go.RowKit
set_option linter.unusedVariables false

set_option maxRecDepth 20000 in
set_option maxHeartbeats 1000000 in
theorem markHead (q : Int) (base : Nat) (v : Value) (h : H8) (w : World) (hs : h.small 1048576) (hq0 : 0 ≤ q) (hq1 : q ≤ 140737400000000) (ho : HOwns w base v h) :
    Calls Tryz.prog 14 #[v, .int .i64 q] w fun e w' => e = .returned (.int .i64 (q + (h.d.length : Int) + (h.s.length : Int) + (h.t.length : Int))) ∧ HOwns w' base v (h.marked q) ∧ Chg (HBlk v) w w' := by
  obtain ⟨xf, xv, xd, xs, xt, xn, xl, xp⟩ := h
  obtain ⟨v0, v1, v2, rfl, q0⟩ := ho
  obtain ⟨s0, s1, s2⟩ := hs
  dsimp only at q0 s0 s1 s2 ⊢
  have O0 := q0.o0
  have O1 := q0.o1
  have O2 := q0.o2
  dsimp only at O0 O1 O2
  obtain ⟨n0, e0⟩ : ∃ n, n = xd.length := ⟨_, rfl⟩
  obtain ⟨n1, e1⟩ : ∃ n, n = xs.length := ⟨_, rfl⟩
  obtain ⟨n2, e2⟩ : ∃ n, n = xt.length := ⟨_, rfl⟩
  have EK : Hid ((H8.mk xf xv xd xs xt xn xl xp).marked q = ⟨xf, xv, marks q n0, marks (q + (n0 : Int)) n1, marks (q + (n0 : Int) + (n1 : Int)) n2, xn, xl, xp⟩) := by rw [e0, e1, e2]; rfl
  have HQ : Hid _ := And.intro O0 (And.intro O1 (And.intro O2 (And.intro q0.a01 (And.intro q0.a02 q0.a12))))
  have EN : Hid _ := And.intro e0 (And.intro e1 e2)
  rw [← e0] at s0 ⊢
  rw [← e1] at s1 ⊢
  rw [← e2] at s2 ⊢
  clear e0 e1 e2 q0 O0 O1 O2
  have B0 : (w.alloc (.cells #[.int .i64 xf, .int .i64 xv, v0, v1, v2, .int .i64 xn, .int .i64 xl, .int .i64 xp] 27)).heap[w.heap.size]? = some (.cells #[.int .i64 xf, .int .i64 xv, v0, v1, v2, .int .i64 xn, .int .i64 xl, .int .i64 xp] 27 (0, 0)) := (MapKept.heap_alloc w _).1
  have HB0 : Hid _ := B0
  have WB : Hid (Below w.heap.size w (w.alloc (.cells #[.int .i64 xf, .int .i64 xv, v0, v1, v2, .int .i64 xn, .int .i64 xl, .int .i64 xp] 27))) := (Below.refl _ _).alloc (Nat.le_refl _) _
  clear B0
  go_enter Tryz.func14, Tryz.ntmps14
  go_wp2_with fail
  go_at_call 13
  refine (markBytes q n0 base _ xd _ (by omega) hq0 (by omega) (by have := owns_below HQ.out.1 WB.out; rw [← EN.out.1] at this; exact this)).mono ?_
  rintro e w1 ⟨rfl, o1, b1, z1, n1'⟩
  have B1 := n1'.mark HB0.out (fun e => by have := (HQ.out.1.lt _ e).2; omega)
  have c1 : w1.cell? ⟨w.heap.size, 3, none⟩ = some v1 := by rw [kblk_cell B1]; rfl
  have H1 : Hid _ := And.intro B1 (And.intro o1 n1')
  clear B1 o1 n1' b1 z1
  go_wp2_with fail
  go_at_call 13
  refine (markBytes (q + (n0 : Int)) n1 base _ xs _ (by omega) (by omega) (by omega) (by have := H1.out.2.2.owns (owns_below HQ.out.2.1 WB.out) (fun g hg e => HQ.out.2.2.2.1 g e.symm hg); rw [← EN.out.2.1] at this; exact this)).mono ?_
  rintro e w2 ⟨rfl, o2, b2, z2, n2'⟩
  have B2 := n2'.mark H1.out.1 (fun e => by have := (HQ.out.2.1.lt _ e).2; omega)
  have c2 : w2.cell? ⟨w.heap.size, 4, none⟩ = some v2 := by rw [kblk_cell B2]; rfl
  have H2 : Hid _ := And.intro B2 (And.intro o2 n2')
  clear B2 o2 n2' b2 z2
  go_wp2_with fail
  go_at_call 13
  refine (markBytes (q + (n0 : Int) + (n1 : Int)) n2 base _ xt _ (by omega) (by omega) (by omega) (by have := H2.out.2.2.owns (H1.out.2.2.owns (owns_below HQ.out.2.2.1 WB.out) (fun g hg e => HQ.out.2.2.2.2.1 g e.symm hg)) (fun g hg e => HQ.out.2.2.2.2.2 g e.symm hg); rw [← EN.out.2.2] at this; exact this)).mono ?_
  rintro e w3 ⟨rfl, o3, b3, z3, n3'⟩
  have H3 : Hid _ := And.intro o3 n3'
  clear o3 n3' b3 z3
  go_wp2
  go_ret
  refine ⟨rfl, ?_, ?_⟩
  · rw [EK.out]
    have x0 := H3.out.2.owns (H2.out.2.2.owns H1.out.2.1 (fun g hg e => HQ.out.2.2.2.1 g hg e.symm)) (fun g hg e => HQ.out.2.2.2.2.1 g hg e.symm)
    have x1 := H3.out.2.owns H2.out.2.1 (fun g hg e => HQ.out.2.2.2.2.2 g hg e.symm)
    exact ⟨v0, v1, v2, rfl, by rw [marks_length]; exact x0, by rw [marks_length]; exact x1, by rw [marks_length]; exact H3.out.1, HQ.out.2.2.2.1, HQ.out.2.2.2.2.1, HQ.out.2.2.2.2.2⟩
  · refine (Chg.of_below WB.out).trans ((Chg.of_only H1.out.2.2 ?_).trans ((Chg.of_only H2.out.2.2 ?_).trans (Chg.of_only H3.out.2 ?_)))
    · exact fun g e => ⟨_, _, _, _, _, _, _, _, rfl, Or.inl e⟩
    · exact fun g e => ⟨_, _, _, _, _, _, _, _, rfl, Or.inr (Or.inl e)⟩
    · exact fun g e => ⟨_, _, _, _, _, _, _, _, rfl, Or.inr (Or.inr e)⟩
set_option maxHeartbeats 1000000 in
theorem heldHead (q : Int) (v : Value) (h : H8) (w : World) (hs : h.small 1048576) (hq0 : 0 ≤ q) (hq1 : q ≤ 140737400000000) (ho : HRow w v (h.marked q)) :
    Calls Tryz.prog 15 #[v, .int .i64 q] w fun e w' => e = .returned (.int .i64 (q + (h.d.length : Int) + (h.s.length : Int) + (h.t.length : Int))) ∧ Below w.heap.size w w' := by
  obtain ⟨v0, v1, v2, rfl, r0, r1, r2⟩ := ho
  obtain ⟨s0, s1, s2⟩ := hs
  unfold H8.marked at r0 r1 r2 ⊢
  dsimp only at r0 r1 r2 ⊢
  obtain ⟨xf, xv, xd, xs, xt, xn, xl, xp⟩ := h
  dsimp only at r0 r1 r2 s0 s1 s2 ⊢
  generalize xd.length = n0 at *
  generalize xs.length = n1 at *
  generalize xt.length = n2 at *
  have WB : Below w.heap.size w (w.alloc (.cells #[.int .i64 xf, .int .i64 xv, v0, v1, v2, .int .i64 xn, .int .i64 xl, .int .i64 xp] 27)) := (Below.refl _ _).alloc (Nat.le_refl _) _
  have h0 := heldBytes q n0 v0 _ (r0.below WB) (by omega) hq0 (by omega)
  have h1 := heldBytes (q + (n0 : Int)) n1 v1 _ (r1.below WB) (by omega) (by omega) (by omega)
  have h2 := heldBytes (q + (n0 : Int) + (n1 : Int)) n2 v2 _ (r2.below WB) (by omega) (by omega) (by omega)
  have HW : Hid _ := WB
  clear r0 r1 r2 WB
  go_enter Tryz.func15, Tryz.ntmps15
  go_wp2_with fail
  go_at_call 16
  refine h0.mono ?_
  rintro e w1 ⟨rfl, rfl⟩
  go_wp2_with fail
  go_at_call 16
  refine h1.mono ?_
  rintro e w1 ⟨rfl, rfl⟩
  go_wp2_with fail
  go_at_call 16
  refine h2.mono ?_
  rintro e w1 ⟨rfl, rfl⟩
  go_wp2
  go_ret
  exact ⟨rfl, HW.out⟩
end Go.Proofs.YthokfbgpoffafaaGreatDoor

namespace Go.Proofs.YthokfbgpoffafaaGreatDoor
open Go.RowKit
set_option linter.unusedVariables false

end Go.Proofs.YthokfbgpoffafaaGreatDoor

namespace Go.Proofs.YthokfbgpoffafaaGreatDoor
open Go.RowKit
set_option linter.unusedVariables false

set_option maxHeartbeats 400000 in
theorem eqKeys_same (va vb : Value) (k : K4) (w : World) (ha : KRow w va k) (hb : KRow w vb k) (hs : k.small 140737488355328) :
    Calls Tryz.prog 11 #[va, vb] w fun e w' => e = .returned (.bool true) ∧ Below w.heap.size w w' := by
  obtain ⟨u0, u1, u2, u3, rfl, p0, p1, p2, p3⟩ := ha
  obtain ⟨v0, v1, v2, v3, rfl, q0, q1, q2, q3⟩ := hb
  have WB : ∀ (o1 o2 : Obj) (n : Nat), Below w.heap.size w (((w.alloc o1).alloc o2).drewN n) := fun o1 o2 n => below_drewN (((Below.refl _ _).alloc (Nat.le_refl _) o1).alloc (by simp) o2) n
  have WB0 : ∀ (o1 o2 : Obj), Below w.heap.size w ((w.alloc o1).alloc o2) := fun o1 o2 => ((Below.refl _ _).alloc (Nat.le_refl _) o1).alloc (by simp) o2
  have HH : Hid _ := And.intro (And.intro p0 (And.intro p1 (And.intro p2 p3))) (And.intro (And.intro q0 (And.intro q1 (And.intro q2 q3))) (And.intro hs (And.intro WB WB0)))
  clear p0 p1 p2 p3 q0 q1 q2 q3 hs WB WB0
  go_enter Tryz.func11, Tryz.ntmps11
  go_wp2_with fail
  go_at_call 10
  refine (eqBytes_same _ _ k.a _ (HH.out.1.1.below (HH.out.2.2.2.2 _ _)) (HH.out.2.1.1.below (HH.out.2.2.2.2 _ _)) HH.out.2.2.1.1).mono ?_
  rintro e w0 ⟨rfl, m0, rfl⟩
  go_wp2_with fail
  go_at_call 10
  refine (eqBytes_same _ _ k.b _ (HH.out.1.2.1.below (HH.out.2.2.2.1 _ _ _)) (HH.out.2.1.2.1.below (HH.out.2.2.2.1 _ _ _)) HH.out.2.2.1.2.1).mono ?_
  rintro e w1 ⟨rfl, m1, rfl⟩
  go_wp2_with fail
  go_at_call 10
  refine (eqBytes_same _ _ k.c _ (HH.out.1.2.2.1.below (HH.out.2.2.2.1 _ _ _)) (HH.out.2.1.2.2.1.below (HH.out.2.2.2.1 _ _ _)) HH.out.2.2.1.2.2.1).mono ?_
  rintro e w2 ⟨rfl, m2, rfl⟩
  go_wp2_with fail
  go_at_call 10
  refine (eqBytes_same _ _ k.d _ (HH.out.1.2.2.2.below (HH.out.2.2.2.1 _ _ _)) (HH.out.2.1.2.2.2.below (HH.out.2.2.2.1 _ _ _)) HH.out.2.2.1.2.2.2).mono ?_
  rintro e w3 ⟨rfl, m3, rfl⟩
  go_wp2
  go_ret
  exact ⟨rfl, HH.out.2.2.2.1 _ _ _⟩
end Go.Proofs.YthokfbgpoffafaaGreatDoor

namespace Go.Proofs.YthokfbgpoffafaaGreatDoor
open Go.RowKit
set_option linter.unusedVariables false

theorem szBytes_fit (v : Value) (xs : List Int) (l : Int) (w : World) (h : Row w .u8 v xs) (h0 : (xs.length : Int) ≤ l) (h1 : l ≤ 9223372036854775807) :
    Calls Tryz.prog 17 #[v, .int .i64 l] w fun e w' => e = .returned (.int .i64 (l - (xs.length : Int))) ∧ w' = w := by
  obtain ⟨ao, cap, rfl⟩ := h.form
  clear h
  generalize xs.length = n at *
  go_enter Tryz.func17, Tryz.ntmps17
  go_wp2
  go_ret
  exact ⟨rfl, rfl⟩
theorem szBytes_over (v : Value) (xs : List Int) (l : Int) (w : World) (h : Row w .u8 v xs) (hx : xs.length ≤ 9223372036854775807) (h0 : l < (xs.length : Int)) (h1 : 0 ≤ l) :
    Calls Tryz.prog 17 #[v, .int .i64 l] w fun e w' => e = .returned (.int .i64 (-1)) ∧ w' = w := by
  obtain ⟨ao, cap, rfl⟩ := h.form
  clear h
  generalize xs.length = n at *
  go_enter Tryz.func17, Tryz.ntmps17
  go_wp2
  go_ret
  exact ⟨rfl, rfl⟩
end Go.Proofs.YthokfbgpoffafaaGreatDoor

namespace Go.Proofs.YthokfbgpoffafaaGreatDoor
open Go.RowKit
set_option linter.unusedVariables false

theorem sz_fit (v : Value) (k : K4) (l : Int) (w : World) (h : KRow w v k) (hs : k.small 9223372036854775807) (hl0 : 0 ≤ l) (hl1 : l ≤ 9223372036854775807) (hf : k.total ≤ l) :
    Calls Tryz.prog 4 #[v, .int .i64 l] w fun e w' => e = .returned (.int .i64 (l - k.total)) ∧ Below w.heap.size w w' := by
  obtain ⟨v0, v1, v2, v3, rfl, r0, r1, r2, r3⟩ := h
  obtain ⟨s0, s1, s2, s3⟩ := hs
  have e : l - k.total = l - (k.a.length : Int) - (k.b.length : Int) - (k.c.length : Int) - (k.d.length : Int) := by unfold K4.total; omega
  rw [e]
  unfold K4.total at hf
  have WB : Below w.heap.size w (w.alloc (.cells #[v0, v1, v2, v3] 24)) := (Below.refl _ _).alloc (Nat.le_refl _) _
  have h0 := szBytes_fit v0 k.a l _ (r0.below WB) (by omega) (by omega)
  have h1 := szBytes_fit v1 k.b (l - (k.a.length : Int)) _ (r1.below WB) (by omega) (by omega)
  have h2 := szBytes_fit v2 k.c (l - (k.a.length : Int) - (k.b.length : Int)) _ (r2.below WB) (by omega) (by omega)
  have h3 := szBytes_fit v3 k.d (l - (k.a.length : Int) - (k.b.length : Int) - (k.c.length : Int)) _ (r3.below WB) (by omega) (by omega)
  have HW : Hid _ := WB
  clear r0 r1 r2 r3 WB
  generalize k.a.length = n0 at *
  generalize k.b.length = n1 at *
  generalize k.c.length = n2 at *
  generalize k.d.length = n3 at *
  go_enter Tryz.func4, Tryz.ntmps4
  go_wp2_with fail
  go_at_call 17
  refine h0.mono ?_
  rintro e w1 ⟨rfl, rfl⟩
  go_wp2_with fail
  go_at_call 17
  refine h1.mono ?_
  rintro e w1 ⟨rfl, rfl⟩
  go_wp2_with fail
  go_at_call 17
  refine h2.mono ?_
  rintro e w1 ⟨rfl, rfl⟩
  go_wp2_with fail
  go_at_call 17
  refine h3.mono ?_
  rintro e w1 ⟨rfl, rfl⟩
  go_wp2
  go_ret
  exact ⟨rfl, HW.out⟩
theorem sz_over1 (v : Value) (k : K4) (l : Int) (w : World) (h : KRow w v k) (hs : k.small 9223372036854775807) (hl0 : 0 ≤ l) (hl1 : l ≤ 9223372036854775807) (c0 : l < (k.a.length : Int)) :
    Calls Tryz.prog 4 #[v, .int .i64 l] w fun e w' => e = .returned (.int .i64 (-1)) ∧ Below w.heap.size w w' := by
  obtain ⟨v0, v1, v2, v3, rfl, r0, r1, r2, r3⟩ := h
  obtain ⟨s0, s1, s2, s3⟩ := hs
  have WB : Below w.heap.size w (w.alloc (.cells #[v0, v1, v2, v3] 24)) := (Below.refl _ _).alloc (Nat.le_refl _) _
  have h0 := szBytes_over v0 k.a l _ (r0.below WB) s0 (by omega) (by omega)
  have HW : Hid _ := WB
  clear r0 r1 r2 r3 WB
  generalize k.a.length = n0 at *
  generalize k.b.length = n1 at *
  generalize k.c.length = n2 at *
  generalize k.d.length = n3 at *
  go_enter Tryz.func4, Tryz.ntmps4
  go_wp2_with fail
  go_at_call 17
  refine h0.mono ?_
  rintro e w1 ⟨rfl, rfl⟩
  go_wp2
  go_ret
  exact ⟨rfl, HW.out⟩
theorem sz_over2 (v : Value) (k : K4) (l : Int) (w : World) (h : KRow w v k) (hs : k.small 9223372036854775807) (hl0 : 0 ≤ l) (hl1 : l ≤ 9223372036854775807) (c0 : (k.a.length : Int) ≤ l) (c1 : l - (k.a.length : Int) < (k.b.length : Int)) :
    Calls Tryz.prog 4 #[v, .int .i64 l] w fun e w' => e = .returned (.int .i64 (-1)) ∧ Below w.heap.size w w' := by
  obtain ⟨v0, v1, v2, v3, rfl, r0, r1, r2, r3⟩ := h
  obtain ⟨s0, s1, s2, s3⟩ := hs
  have WB : Below w.heap.size w (w.alloc (.cells #[v0, v1, v2, v3] 24)) := (Below.refl _ _).alloc (Nat.le_refl _) _
  have h0 := szBytes_fit v0 k.a l _ (r0.below WB) (by omega) (by omega)
  have h1 := szBytes_over v1 k.b (l - (k.a.length : Int)) _ (r1.below WB) s1 (by omega) (by omega)
  have HW : Hid _ := WB
  clear r0 r1 r2 r3 WB
  generalize k.a.length = n0 at *
  generalize k.b.length = n1 at *
  generalize k.c.length = n2 at *
  generalize k.d.length = n3 at *
  go_enter Tryz.func4, Tryz.ntmps4
  go_wp2_with fail
  go_at_call 17
  refine h0.mono ?_
  rintro e w1 ⟨rfl, rfl⟩
  go_wp2_with fail
  go_at_call 17
  refine h1.mono ?_
  rintro e w1 ⟨rfl, rfl⟩
  go_wp2
  go_ret
  exact ⟨rfl, HW.out⟩
theorem sz_over3 (v : Value) (k : K4) (l : Int) (w : World) (h : KRow w v k) (hs : k.small 9223372036854775807) (hl0 : 0 ≤ l) (hl1 : l ≤ 9223372036854775807) (c0 : (k.a.length : Int) ≤ l) (c1 : (k.b.length : Int) ≤ l - (k.a.length : Int)) (c2 : l - (k.a.length : Int) - (k.b.length : Int) < (k.c.length : Int)) :
    Calls Tryz.prog 4 #[v, .int .i64 l] w fun e w' => e = .returned (.int .i64 (-1)) ∧ Below w.heap.size w w' := by
  obtain ⟨v0, v1, v2, v3, rfl, r0, r1, r2, r3⟩ := h
  obtain ⟨s0, s1, s2, s3⟩ := hs
  have WB : Below w.heap.size w (w.alloc (.cells #[v0, v1, v2, v3] 24)) := (Below.refl _ _).alloc (Nat.le_refl _) _
  have h0 := szBytes_fit v0 k.a l _ (r0.below WB) (by omega) (by omega)
  have h1 := szBytes_fit v1 k.b (l - (k.a.length : Int)) _ (r1.below WB) (by omega) (by omega)
  have h2 := szBytes_over v2 k.c (l - (k.a.length : Int) - (k.b.length : Int)) _ (r2.below WB) s2 (by omega) (by omega)
  have HW : Hid _ := WB
  clear r0 r1 r2 r3 WB
  generalize k.a.length = n0 at *
  generalize k.b.length = n1 at *
  generalize k.c.length = n2 at *
  generalize k.d.length = n3 at *
  go_enter Tryz.func4, Tryz.ntmps4
  go_wp2_with fail
  go_at_call 17
  refine h0.mono ?_
  rintro e w1 ⟨rfl, rfl⟩
  go_wp2_with fail
  go_at_call 17
  refine h1.mono ?_
  rintro e w1 ⟨rfl, rfl⟩
  go_wp2_with fail
  go_at_call 17
  refine h2.mono ?_
  rintro e w1 ⟨rfl, rfl⟩
  go_wp2
  go_ret
  exact ⟨rfl, HW.out⟩
theorem sz_over4 (v : Value) (k : K4) (l : Int) (w : World) (h : KRow w v k) (hs : k.small 9223372036854775807) (hl0 : 0 ≤ l) (hl1 : l ≤ 9223372036854775807) (c0 : (k.a.length : Int) ≤ l) (c1 : (k.b.length : Int) ≤ l - (k.a.length : Int)) (c2 : (k.c.length : Int) ≤ l - (k.a.length : Int) - (k.b.length : Int)) (c3 : l - (k.a.length : Int) - (k.b.length : Int) - (k.c.length : Int) < (k.d.length : Int)) :
    Calls Tryz.prog 4 #[v, .int .i64 l] w fun e w' => e = .returned (.int .i64 (-1)) ∧ Below w.heap.size w w' := by
  obtain ⟨v0, v1, v2, v3, rfl, r0, r1, r2, r3⟩ := h
  obtain ⟨s0, s1, s2, s3⟩ := hs
  have WB : Below w.heap.size w (w.alloc (.cells #[v0, v1, v2, v3] 24)) := (Below.refl _ _).alloc (Nat.le_refl _) _
  have h0 := szBytes_fit v0 k.a l _ (r0.below WB) (by omega) (by omega)
  have h1 := szBytes_fit v1 k.b (l - (k.a.length : Int)) _ (r1.below WB) (by omega) (by omega)
  have h2 := szBytes_fit v2 k.c (l - (k.a.length : Int) - (k.b.length : Int)) _ (r2.below WB) (by omega) (by omega)
  have h3 := szBytes_over v3 k.d (l - (k.a.length : Int) - (k.b.length : Int) - (k.c.length : Int)) _ (r3.below WB) s3 (by omega) (by omega)
  have HW : Hid _ := WB
  clear r0 r1 r2 r3 WB
  generalize k.a.length = n0 at *
  generalize k.b.length = n1 at *
  generalize k.c.length = n2 at *
  generalize k.d.length = n3 at *
  go_enter Tryz.func4, Tryz.ntmps4
  go_wp2_with fail
  go_at_call 17
  refine h0.mono ?_
  rintro e w1 ⟨rfl, rfl⟩
  go_wp2_with fail
  go_at_call 17
  refine h1.mono ?_
  rintro e w1 ⟨rfl, rfl⟩
  go_wp2_with fail
  go_at_call 17
  refine h2.mono ?_
  rintro e w1 ⟨rfl, rfl⟩
  go_wp2_with fail
  go_at_call 17
  refine h3.mono ?_
  rintro e w1 ⟨rfl, rfl⟩
  go_wp2
  go_ret
  exact ⟨rfl, HW.out⟩
theorem sz_over (v : Value) (k : K4) (l : Int) (w : World) (h : KRow w v k) (hs : k.small 9223372036854775807) (hl0 : 0 ≤ l) (hl1 : l ≤ 9223372036854775807) (ho : l < k.total) :
    Calls Tryz.prog 4 #[v, .int .i64 l] w fun e w' => e = .returned (.int .i64 (-1)) ∧ Below w.heap.size w w' := by
  unfold K4.total at ho
  by_cases c0 : l < (k.a.length : Int)
  · exact sz_over1 v k l w h hs hl0 hl1 c0
  · by_cases c1 : l - (k.a.length : Int) < (k.b.length : Int)
    · exact sz_over2 v k l w h hs hl0 hl1 (by omega) c1
    · by_cases c2 : l - (k.a.length : Int) - (k.b.length : Int) < (k.c.length : Int)
      · exact sz_over3 v k l w h hs hl0 hl1 (by omega) (by omega) c2
      · exact sz_over4 v k l w h hs hl0 hl1 (by omega) (by omega) (by omega) (by omega)
end Go.Proofs.YthokfbgpoffafaaGreatDoor

namespace Go.Proofs.YthokfbgpoffafaaGreatDoor
open Go.RowKit
set_option linter.unusedVariables false

/-- Keys that are being copied: where they were laid, the answer's room, what there is of the copy. -/
structure TkAt (w wx : World) (ins outs : Array Value) : Prop where
  b0 : wx.heap[w.heap.size]? = some (.cells ins 24 (0, 0))
  b1 : wx.heap[w.heap.size + 1]? = some (.cells #[.slice none 0 0, .slice none 0 0, .slice none 0 0, .slice none 0 0] 30 (0, 0))
  b2 : wx.heap[w.heap.size + 2]? = some (.cells outs 30 (0, 0))
  bel : Below w.heap.size w wx
theorem TkAt.lt {w wx : World} {ins outs : Array Value} (h : TkAt w wx ins outs) : w.heap.size + 2 < wx.heap.size := (Array.getElem?_eq_some_iff.1 h.b2).1
theorem TkAt.called {w wx w' : World} {ins outs : Array Value} (h : TkAt w wx ins outs) (hb : Below wx.heap.size wx w') : TkAt w w' ins outs :=
  ⟨(hb.block _ (by have := h.lt; omega)).trans h.b0, (hb.block _ (by have := h.lt; omega)).trans h.b1, (hb.block _ h.lt).trans h.b2, h.bel.trans (hb.mono h.bel.size)⟩
theorem TkAt.stored {w wx : World} {ins outs : Array Value} (h : TkAt w wx ins outs) (i : Nat) (r : Value) : TkAt w (wx.setCell ⟨w.heap.size + 2, i, none⟩ r) ins (outs.setIfInBounds i r) :=
  ⟨(bk_other (by omega) i r).trans h.b0, (bk_other (by omega) i r).trans h.b1, bk_set h.b2 i r, h.bel.setCell (by show w.heap.size ≤ w.heap.size + 2; omega) _⟩
theorem tk_new (w : World) (ins : Array Value) : TkAt w (((w.alloc (.cells ins 24)).alloc (.cells #[.slice none 0 0, .slice none 0 0, .slice none 0 0, .slice none 0 0] 30)).alloc (.cells #[.slice none 0 0, .slice none 0 0, .slice none 0 0, .slice none 0 0] 30)) ins #[.slice none 0 0, .slice none 0 0, .slice none 0 0, .slice none 0 0] := by
  obtain ⟨h0, h1, h2⟩ := bk_new3 w (.cells ins 24) (.cells #[.slice none 0 0, .slice none 0 0, .slice none 0 0, .slice none 0 0] 30) (.cells #[.slice none 0 0, .slice none 0 0, .slice none 0 0, .slice none 0 0] 30)
  exact ⟨h0, h1, h2, (((Below.refl _ _).alloc (Nat.le_refl _) _).alloc (by simp) _).alloc (by simp <;> omega) _⟩
theorem infoKeys : (Tryz.prog.info? 30).map (·.size) = some 4 := by kernel_rfl
theorem owns_cell2 {wx : World} {base g n i : Nat} {u v : Value} {xs : List Value} (ho : wx.ownsRow base 5 1 v n xs) (hb : g < base) : (wx.setCell ⟨g, i, none⟩ u).ownsRow base 5 1 v n xs :=
  (Only.setCell (w := wx) ⟨g, i, none⟩ u).owns ho (fun k hk e => by have := (ho.lt k hk).1; have := Option.some.inj e; simp only at this; omega)

set_option maxHeartbeats 2000000 in
theorem toKeys (v : Value) (k : K4) (w : World) (h : KRow w v k) (hs : k.small 140737488355328) :
    Calls Tryz.prog 6 #[v] w fun e w' => ∃ r, e = .returned r ∧ KOwns w' w.heap.size r k ∧ Below w.heap.size w w' := by
  obtain ⟨u0, u1, u2, u3, rfl, p0, p1, p2, p3⟩ := h
  have T0 := tk_new w #[u0, u1, u2, u3]
  have HP : Hid _ := And.intro p0 (And.intro p1 (And.intro p2 (And.intro p3 hs)))
  have H0 : Hid _ := T0
  clear p0 p1 p2 p3 hs T0
  go_enter Tryz.func6, Tryz.ntmps6
  go_wp2_with fail
  go_at_call 7
  refine (toBytes u0 k.a _ (HP.out.1.below (H0.out).bel) HP.out.2.2.2.2.1).mono ?_
  rintro e w1 ⟨r0, rfl, o0, b0⟩
  obtain ⟨ao0, cp0, hr0⟩ := (row_of_owns o0).form
  subst hr0
  have T1 := (H0.out).called b0
  have a1 : w1.cell? ⟨w.heap.size, 1, none⟩ = some u1 := by rw [bk_cell T1.b0]; rfl
  have s1 : w1.cell? ⟨w.heap.size + 2, 0, none⟩ = some (.slice none 0 0) := by rw [bk_cell T1.b2]; rfl
  have f1 : w1.frozen? ⟨w.heap.size + 2, 0, none⟩ = false := bk_free T1.b2 0
  have h1 : w.heap.size + 2 < w1.heap.size := T1.lt
  have l1 : w.heap.size + 3 ≤ (((w.alloc (.cells #[u0, u1, u2, u3] 24)).alloc (.cells #[.slice none 0 0, .slice none 0 0, .slice none 0 0, .slice none 0 0] 30)).alloc (.cells #[.slice none 0 0, .slice none 0 0, .slice none 0 0, .slice none 0 0] 30)).heap.size := by simp
  have H1 : Hid _ := And.intro (T1.stored 0 (.slice ao0 k.a.length cp0)) (And.intro o0 b0)
  clear T1 o0 b0
  go_wp2_with fail
  go_at_call 7
  refine (toBytes u1 k.b _ (HP.out.2.1.below (H1.out.1).bel) HP.out.2.2.2.2.2.1).mono ?_
  rintro e w2 ⟨r1, rfl, o1, b1⟩
  obtain ⟨ao1, cp1, hr1⟩ := (row_of_owns o1).form
  subst hr1
  have T2 := (H1.out.1).called b1
  have a2 : w2.cell? ⟨w.heap.size, 2, none⟩ = some u2 := by rw [bk_cell T2.b0]; rfl
  have s2 : w2.cell? ⟨w.heap.size + 2, 1, none⟩ = some (.slice none 0 0) := by rw [bk_cell T2.b2]; rfl
  have f2 : w2.frozen? ⟨w.heap.size + 2, 1, none⟩ = false := bk_free T2.b2 1
  have h2 : w.heap.size + 2 < w2.heap.size := T2.lt
  have l2 : w.heap.size + 3 ≤ w1.heap.size := h1
  have H2 : Hid _ := And.intro (T2.stored 1 (.slice ao1 k.b.length cp1)) (And.intro o1 b1)
  clear T2 o1 b1
  clear s1 f1 a1
  go_wp2_with fail
  go_at_call 7
  refine (toBytes u2 k.c _ (HP.out.2.2.1.below (H2.out.1).bel) HP.out.2.2.2.2.2.2.1).mono ?_
  rintro e w3 ⟨r2, rfl, o2, b2⟩
  obtain ⟨ao2, cp2, hr2⟩ := (row_of_owns o2).form
  subst hr2
  have T3 := (H2.out.1).called b2
  have a3 : w3.cell? ⟨w.heap.size, 3, none⟩ = some u3 := by rw [bk_cell T3.b0]; rfl
  have s3 : w3.cell? ⟨w.heap.size + 2, 2, none⟩ = some (.slice none 0 0) := by rw [bk_cell T3.b2]; rfl
  have f3 : w3.frozen? ⟨w.heap.size + 2, 2, none⟩ = false := bk_free T3.b2 2
  have h3 : w.heap.size + 2 < w3.heap.size := T3.lt
  have l3 : w.heap.size + 3 ≤ w2.heap.size := h2
  have H3 : Hid _ := And.intro (T3.stored 2 (.slice ao2 k.c.length cp2)) (And.intro o2 b2)
  clear T3 o2 b2
  clear s2 f2 a2
  go_wp2_with fail
  go_at_call 7
  refine (toBytes u3 k.d _ (HP.out.2.2.2.1.below (H3.out.1).bel) HP.out.2.2.2.2.2.2.2).mono ?_
  rintro e w4 ⟨r3, rfl, o3, b3⟩
  obtain ⟨ao3, cp3, hr3⟩ := (row_of_owns o3).form
  subst hr3
  have T4 := (H3.out.1).called b3
  have s4 : w4.cell? ⟨w.heap.size + 2, 3, none⟩ = some (.slice none 0 0) := by rw [bk_cell T4.b2]; rfl
  have f4 : w4.frozen? ⟨w.heap.size + 2, 3, none⟩ = false := bk_free T4.b2 3
  have h4 : w.heap.size + 2 < w4.heap.size := T4.lt
  have l4 : w.heap.size + 3 ≤ w3.heap.size := h3
  have y0 : w4.cell? ⟨w.heap.size + 2, 0, none⟩ = some (.slice ao0 k.a.length cp0) := by rw [bk_cell T4.b2]; rfl
  have y1 : w4.cell? ⟨w.heap.size + 2, 1, none⟩ = some (.slice ao1 k.b.length cp1) := by rw [bk_cell T4.b2]; rfl
  have y2 : w4.cell? ⟨w.heap.size + 2, 2, none⟩ = some (.slice ao2 k.c.length cp2) := by rw [bk_cell T4.b2]; rfl
  have z0 : w4.cell? ⟨w.heap.size + 1, 0, none⟩ = some (.slice none 0 0) := by rw [bk_cell T4.b1]; rfl
  have g0 : w4.frozen? ⟨w.heap.size + 1, 0, none⟩ = false := bk_free T4.b1 0
  have z1 : w4.cell? ⟨w.heap.size + 1, 1, none⟩ = some (.slice none 0 0) := by rw [bk_cell T4.b1]; rfl
  have g1 : w4.frozen? ⟨w.heap.size + 1, 1, none⟩ = false := bk_free T4.b1 1
  have z2 : w4.cell? ⟨w.heap.size + 1, 2, none⟩ = some (.slice none 0 0) := by rw [bk_cell T4.b1]; rfl
  have g2 : w4.frozen? ⟨w.heap.size + 1, 2, none⟩ = false := bk_free T4.b1 2
  have z3 : w4.cell? ⟨w.heap.size + 1, 3, none⟩ = some (.slice none 0 0) := by rw [bk_cell T4.b1]; rfl
  have g3 : w4.frozen? ⟨w.heap.size + 1, 3, none⟩ = false := bk_free T4.b1 3
  have H4 : Hid _ := And.intro (T4.stored 3 (.slice ao3 k.d.length cp3)) (And.intro o3 b3)
  clear T4 o3 b3 s3 f3 a3
  go_wp2
  try simp only [Exit.inBlock, Exit.then]
  refine bodyPost_ret (v := .agg #[.slice ao0 k.a.length cp0, .slice ao1 k.b.length cp1, .slice ao2 k.c.length cp2, .slice ao3 k.d.length cp3]) ?_ rfl ?_
  · refine results_cell_row (t := 30) rfl _ _ (w.heap.size + 1) _ (fr := (0, 0)) _ rfl ?_ Tryz.underlying30 rfl infoKeys
    rw [bk_set (bk_set (bk_set (bk_set H4.out.1.b1 0 _) 1 _) 2 _) 3 _]
    rfl
  · have e1 : ∀ (x : World) (a : Addr) (u : Value), (x.setCell a u).heap.size = x.heap.size := fun x a u => by simp [World.setCell]
    have m0 := owns_mono H1.out.2.1 l1
    have m1 := owns_mono H2.out.2.1 (base' := w.heap.size + 3) (by rw [e1]; exact l2)
    have m2 := owns_mono H3.out.2.1 (base' := w.heap.size + 3) (by rw [e1]; exact l3)
    have m3 := owns_mono H4.out.2.1 (base' := w.heap.size + 3) (by rw [e1]; exact l4)
    have n01 := owns_below (owns_cell2 (i := 0) (u := .slice ao0 k.a.length cp0) m0 (g := w.heap.size + 2) (by omega)) H2.out.2.2
    have n02 := owns_below (owns_cell2 (i := 1) (u := .slice ao1 k.b.length cp1) n01 (g := w.heap.size + 2) (by omega)) H3.out.2.2
    have n03 := owns_below (owns_cell2 (i := 2) (u := .slice ao2 k.c.length cp2) n02 (g := w.heap.size + 2) (by omega)) H4.out.2.2
    have n12 := owns_below (owns_cell2 (i := 1) (u := .slice ao1 k.b.length cp1) m1 (g := w.heap.size + 2) (by omega)) H3.out.2.2
    have n13 := owns_below (owns_cell2 (i := 2) (u := .slice ao2 k.c.length cp2) n12 (g := w.heap.size + 2) (by omega)) H4.out.2.2
    have n23 := owns_below (owns_cell2 (i := 2) (u := .slice ao2 k.c.length cp2) m2 (g := w.heap.size + 2) (by omega)) H4.out.2.2
    have fin : ∀ {n : Nat} {v : Value} {xs : List Value}, w4.ownsRow (w.heap.size + 3) 5 1 v n xs → _ := fun h => owns_mono (owns_cell2 (i := 3) (u := .slice ao3 k.d.length cp3) (owns_cell2 (i := 2) (u := .slice ao2 k.c.length cp2) (owns_cell2 (i := 1) (u := .slice ao1 k.b.length cp1) (owns_cell2 (i := 0) (u := .slice ao0 k.a.length cp0) (owns_cell2 (i := 3) (u := .slice ao3 k.d.length cp3) h (g := w.heap.size + 2) (by omega)) (g := w.heap.size + 1) (by omega)) (g := w.heap.size + 1) (by omega)) (g := w.heap.size + 1) (by omega)) (g := w.heap.size + 1) (by omega)) (base' := w.heap.size) (by omega)
    have s12 : w1.heap.size ≤ w2.heap.size := by have := H2.out.2.2.size; simpa [World.setCell] using this
    have s23 : w2.heap.size ≤ w3.heap.size := by have := H3.out.2.2.size; simpa [World.setCell] using this
    refine ⟨_, rfl, ⟨_, _, _, _, rfl, fin n03, fin n13, fin n23, fin m3, ?_, ?_, ?_, ?_, ?_, ?_⟩, ?_⟩
    · exact apart_later H1.out.2.1 H2.out.2.1 (by rw [e1]; exact Nat.le_refl _)
    · exact apart_later H1.out.2.1 H3.out.2.1 (by rw [e1]; exact s12)
    · exact apart_later H1.out.2.1 H4.out.2.1 (by rw [e1]; omega)
    · exact apart_later H2.out.2.1 H3.out.2.1 (by rw [e1]; exact Nat.le_refl _)
    · exact apart_later H2.out.2.1 H4.out.2.1 (by rw [e1]; exact s23)
    · exact apart_later H3.out.2.1 H4.out.2.1 (by rw [e1]; exact Nat.le_refl _)
    · exact (((H4.out.1.bel.setCell (by simp) _).setCell (by simp) _).setCell (by simp) _).setCell (by simp) _
end Go.Proofs.YthokfbgpoffafaaGreatDoor

namespace Go.Proofs.YthokfbgpoffafaaGreatDoor
open Go.RowKit
set_option linter.unusedVariables false

theorem openPacket_huge1 (v0 : Value) (k0 : K4) (ao1 : Option Addr) (n1 cp1 : Nat) (a2 : Int) (a3 : Int) (w : World) (row0 : KRow w v0 k0) (h1 : 1048576 < n1) (m1 : n1 ≤ 9223372036854775807) :
    Calls Tryz.prog 3 #[v0, .slice ao1 n1 cp1, .int .i64 a2, .int .i64 a3] w fun e w' => e = .returned (.bool true) ∧ Below w.heap.size w w' := by
  obtain ⟨d0, d1, d2, d3, rfl, _⟩ := id row0
  clear row0
  go_enter Tryz.func3, Tryz.ntmps3
  go_wp2
  go_ret
  exact ⟨rfl, (Below.refl _ _).alloc (Nat.le_refl _) _⟩
theorem openPacket_hugeK (v0 : Value) (k0 : K4) (ao1 : Option Addr) (n1 cp1 : Nat) (a2 : Int) (a3 : Int) (w : World) (row0 : KRow w v0 k0) (h1 : n1 ≤ 1048576) (sm : k0.small 9223372036854775807) (ho : 1048576 < k0.total) :
    Calls Tryz.prog 3 #[v0, .slice ao1 n1 cp1, .int .i64 a2, .int .i64 a3] w fun e w' => e = .returned (.bool true) ∧ Below w.heap.size w w' := by
  obtain ⟨d0, d1, d2, d3, rfl, _⟩ := id row0
  have WB : Below w.heap.size w (w.alloc (.cells #[d0, d1, d2, d3] 24)) := (Below.refl _ _).alloc (Nat.le_refl _) _
  have C := sz_over _ k0 1048576 _ (row0.below WB) sm (by decide) (by decide) ho
  have HW : Hid _ := WB
  clear row0 sm ho WB
  go_enter Tryz.func3, Tryz.ntmps3
  go_wp2_with fail
  go_at_call 4
  refine C.mono ?_
  rintro e w1 ⟨rfl, b1⟩
  have HB : Hid _ := HW.out.trans (b1.mono HW.out.size)
  clear b1 C
  go_wp2
  go_ret
  exact ⟨rfl, HB.out⟩
set_option maxRecDepth 20000 in
set_option maxHeartbeats 8000000 in
theorem openPacketLaw (v0 : Value) (k0 : K4) (v1 : Value) (x1 : List Int) (a2 : Int) (a3 : Int) (z0 : H8) (y1 : List Int) (c2 : Int) (w : World) (Inv : World → Prop) (hInv : ∀ w' : World, Below w.heap.size w w' → Inv w') (row0 : KRow w v0 k0) (l0 : k0.small 1048576) (t0 : k0.total ≤ 1048576) (row1 : Row w .u8 v1 x1) (l1 : x1.length ≤ 1048576) (lz : z0.small 1048576) (lr : y1.length ≤ 4194304)
    (hS : ∀ (w : World) (u0 : Value) (u1 : Value), KRow w u0 k0 → Row w .u8 u1 x1 → Calls Tryz.prog 5 #[u0, u1, .int .i64 a2, .int .i64 a3] w fun e w' => ∃ r0 r1, e = .returned (.tuple #[r0, r1, .int .i64 c2]) ∧ HOwns w' w.heap.size r0 z0 ∧ w'.ownsRow w.heap.size 5 1 r1 y1.length (y1.map (Value.int .u8)) ∧ (∀ g, HBlk r0 g → Value.ownBlock r1 = some g → False) ∧ Below w.heap.size w w')
    (hI : ∀ (w : World) (u0 : Value) (u1 : Value), Inv w → KRow w u0 k0 → Row w .u8 u1 x1 → Calls Tryz.prog 8 #[u0, u1, .int .i64 a2, .int .i64 a3] w fun e w' => ∃ r0 r1, e = .returned (.tuple #[r0, r1, .int .i64 c2]) ∧ HOwns w' w.heap.size r0 z0 ∧ w'.ownsRow w.heap.size 5 1 r1 y1.length (y1.map (Value.int .u8)) ∧ (∀ g, HBlk r0 g → Value.ownBlock r1 = some g → False) ∧ Below w.heap.size w w') :
    Calls Tryz.prog 3 #[v0, v1, .int .i64 a2, .int .i64 a3] w fun e w' => e = .returned (.bool true) ∧ Below w.heap.size w w' := by
  have TB0 : Hid (∀ w : World, KRow w v0 k0 → Calls Tryz.prog 6 #[v0] w fun e w' => ∃ r, e = .returned r ∧ KOwns w' w.heap.size r k0 ∧ Below w.heap.size w w') := fun w h => toKeys v0 k0 w h (small_mono l0 (by decide))
  obtain ⟨d0, d1, d2, d3, rfl, _⟩ := id row0
  have WB : Below w.heap.size w (w.alloc (.cells #[d0, d1, d2, d3] 24)) := (Below.refl _ _).alloc (Nat.le_refl _) _
  have B0 := (Book.nil w).add (.cells #[d0, d1, d2, d3] 24)
  have CZ := sz_fit _ k0 1048576 _ (row0.below WB) (small_mono l0 (by decide)) (by decide) (by decide) t0
  have tt0 : 0 ≤ k0.total := by unfold K4.total; omega
  obtain ⟨lt, el⟩ : ∃ lt, lt = 1048576 - k0.total := ⟨_, rfl⟩
  rw [← el] at CZ
  have lt0 : 0 ≤ lt := by omega
  have EN0 : Hid _ := And.intro l0 (And.intro row0 True.intro)
  obtain ⟨kp0, kp1, kp2, kp3⟩ := id l0
  obtain ⟨ao1, cp1, ev1⟩ := row1.form
  subst ev1
  obtain ⟨n1, en1⟩ : ∃ n, n = x1.length := ⟨_, rfl⟩
  have TB1 : Hid (∀ w : World, Row w .u8 (.slice ao1 n1 cp1) x1 → Calls Tryz.prog 7 #[.slice ao1 n1 cp1] w fun e w' => ∃ r, e = .returned r ∧ w'.ownsRow w.heap.size 5 1 r x1.length (x1.map (Value.int .u8)) ∧ Below w.heap.size w w') := fun w h => toBytes _ x1 w h (by omega)
  rw [← en1] at row1 l1 ⊢
  have EN1 : Hid _ := And.intro en1 row1
  have hc2 : (c2 != c2) = false := by simp
  have LR : Hid _ := And.intro lz True.intro
  obtain ⟨rp0, rp1, rp2⟩ := id lz
  obtain ⟨m, em⟩ : ∃ m, m = y1.length := ⟨_, rfl⟩
  rw [← em] at lr hS hI
  have EM : Hid _ := And.intro em True.intro
  have HS : Hid _ := And.intro hS True.intro
  have HI : Hid _ := And.intro hI True.intro
  have HV : Hid _ := And.intro hInv True.intro
  have C_0 : Hid _ := And.intro WB True.intro
  have B_0 : Hid _ := And.intro B0 True.intro
  have y_0 : (w.alloc (.cells #[d0, d1, d2, d3] 24)).heap.size = w.heap.size + 1 := by simp
  clear hS hI hInv row0 el tt0 t0 l0 row1 en1 em lz WB B0
  go_enter Tryz.func3, Tryz.ntmps3
  go_wp2_with fail
  go_at_call 4
  refine CZ.mono ?_
  rintro e w1 ⟨rfl, bz⟩
  have z_1 : (w.alloc (.cells #[d0, d1, d2, d3] 24)).heap.size ≤ w1.heap.size := bz.size
  have C_1 : Hid _ := And.intro (C_0.out.1.trans (bz.mono C_0.out.1.size)) True.intro
  have B_1 : Hid _ := And.intro (B_0.out.1.below bz) True.intro
  clear CZ bz
  obtain ⟨ld00, ld01, ld02, ld03⟩ := B_1.out.1.c4 (b := w.heap.size) (x0 := d0) (x1 := d1) (x2 := d2) (x3 := d3) (t := 24) (by simp)
  go_wp2_with fail
  go_at_call 6
  refine (TB0.out _ (KRow.below EN0.out.2.1 C_1.out.1)).mono ?_
  rintro e w2 ⟨T0, rfl, oT0, bT0⟩
  clear ld00 ld01 ld02 ld03
  have z_2 : w1.heap.size ≤ w2.heap.size := bT0.size
  have C_2 : Hid _ := And.intro (C_1.out.1.trans (bT0.mono C_1.out.1.size)) True.intro
  have B_2 : Hid _ := And.intro (B_1.out.1.below bT0) True.intro
  have T0_2 : Hid _ := And.intro oT0 (fun g (hg : KBlk _ g) => KOwns.blk oT0 g hg)
  clear oT0 bT0
  go_wp2_with fail
  go_at_call 7
  refine (TB1.out _ (EN1.out.2.below C_2.out.1)).mono ?_
  rintro e w3 ⟨T1, rfl, oT1, bT1⟩
  have z_3 : w2.heap.size ≤ w3.heap.size := bT1.size
  have T0_3 : Hid _ := And.intro (KOwns.below T0_2.out.1 bT1) T0_2.out.2
  have C_3 : Hid _ := And.intro (C_2.out.1.trans (bT1.mono C_2.out.1.size)) True.intro
  have B_3 : Hid _ := And.intro (B_2.out.1.below bT1) True.intro
  have T1_3 : Hid _ := And.intro oT1 (fun g (hg : Value.ownBlock _ = some g) => oT1.lt g hg)
  clear oT1 bT1
  go_wp2_with fail
  go_at_call 5
  refine (HS.out.1 _ _ _ (KOwns.row T0_3.out.1) (row_of_owns T1_3.out.1)).mono ?_
  rintro e w4 ⟨S0, S1, rfl, oS0, oS1, dj, bS⟩
  clear dj
  have z_4 : w3.heap.size ≤ w4.heap.size := bS.size
  have T0_4 : Hid _ := And.intro (KOwns.below T0_3.out.1 bS) T0_3.out.2
  have T1_4 : Hid _ := And.intro (owns_below T1_3.out.1 bS) T1_3.out.2
  have C_4 : Hid _ := And.intro (C_3.out.1.trans (bS.mono C_3.out.1.size)) True.intro
  have B_4 : Hid _ := And.intro (B_3.out.1.below bS) True.intro
  have S0_4 : Hid _ := And.intro oS0 (fun g (hg : HBlk _ g) => HOwns.blk oS0 g hg)
  clear oS0
  have S1_4 : Hid _ := And.intro oS1 (fun g (hg : Value.ownBlock _ = some g) => oS1.lt g hg)
  clear oS1
  clear bS
  obtain ⟨S0a0, S0a1, S0a2, S0p0, S0p1, S0p2, eS0⟩ := HOwns.parts S0_4.out.1
  subst eS0
  have alS0 : Below w4.heap.size w4 (w4.alloc (.cells #[.int .i64 z0.f, .int .i64 z0.v, .slice S0a0 z0.d.length S0p0, .slice S0a1 z0.s.length S0p1, .slice S0a2 z0.t.length S0p2, .int .i64 z0.n, .int .i64 z0.l, .int .i64 z0.p] 27)) := (Below.refl _ _).alloc (Nat.le_refl _) _
  have z_5 : w4.heap.size ≤ (w4.alloc (.cells #[.int .i64 z0.f, .int .i64 z0.v, .slice S0a0 z0.d.length S0p0, .slice S0a1 z0.s.length S0p1, .slice S0a2 z0.t.length S0p2, .int .i64 z0.n, .int .i64 z0.l, .int .i64 z0.p] 27)).heap.size := alS0.size
  have S0_5 : Hid _ := And.intro (HOwns.below S0_4.out.1 alS0) S0_4.out.2
  have S1_5 : Hid _ := And.intro (owns_below S1_4.out.1 alS0) S1_4.out.2
  have C_5 : Hid _ := And.intro (C_4.out.1.trans (alS0.mono C_4.out.1.size)) True.intro
  have B_5 : Hid _ := And.intro (B_4.out.1.add (.cells #[.int .i64 z0.f, .int .i64 z0.v, .slice S0a0 z0.d.length S0p0, .slice S0a1 z0.s.length S0p1, .slice S0a2 z0.t.length S0p2, .int .i64 z0.n, .int .i64 z0.l, .int .i64 z0.p] 27)) True.intro
  have y_5 : (w4.alloc (.cells #[.int .i64 z0.f, .int .i64 z0.v, .slice S0a0 z0.d.length S0p0, .slice S0a1 z0.s.length S0p1, .slice S0a2 z0.t.length S0p2, .int .i64 z0.n, .int .i64 z0.l, .int .i64 z0.p] 27)).heap.size = w4.heap.size + 1 := by simp
  clear alS0
  obtain ⟨ld00, ld01, ld02, ld03⟩ := B_5.out.1.c4 (b := w.heap.size) (x0 := d0) (x1 := d1) (x2 := d2) (x3 := d3) (t := 24) (by simp)
  go_wp2_with fail
  go_at_call 6
  refine (TB0.out _ (KRow.below EN0.out.2.1 C_5.out.1)).mono ?_
  rintro e w5 ⟨X0, rfl, oX0, bX0⟩
  clear ld00 ld01 ld02 ld03
  have z_6 : (w4.alloc (.cells #[.int .i64 z0.f, .int .i64 z0.v, .slice S0a0 z0.d.length S0p0, .slice S0a1 z0.s.length S0p1, .slice S0a2 z0.t.length S0p2, .int .i64 z0.n, .int .i64 z0.l, .int .i64 z0.p] 27)).heap.size ≤ w5.heap.size := bX0.size
  have S0_6 : Hid _ := And.intro (HOwns.below S0_5.out.1 bX0) S0_5.out.2
  have S1_6 : Hid _ := And.intro (owns_below S1_5.out.1 bX0) S1_5.out.2
  have C_6 : Hid _ := And.intro (C_5.out.1.trans (bX0.mono C_5.out.1.size)) True.intro
  have B_6 : Hid _ := And.intro (B_5.out.1.below bX0) True.intro
  have X0_6 : Hid _ := And.intro oX0 (fun g (hg : KBlk _ g) => KOwns.blk oX0 g hg)
  clear oX0 bX0
  obtain ⟨X0a0, X0a1, X0a2, X0a3, X0p0, X0p1, X0p2, X0p3, eX0⟩ := KOwns.parts X0_6.out.1
  subst eX0
  have alX0 : Below w5.heap.size w5 (w5.alloc (.cells #[.slice X0a0 k0.a.length X0p0, .slice X0a1 k0.b.length X0p1, .slice X0a2 k0.c.length X0p2, .slice X0a3 k0.d.length X0p3] 30)) := (Below.refl _ _).alloc (Nat.le_refl _) _
  have z_7 : w5.heap.size ≤ (w5.alloc (.cells #[.slice X0a0 k0.a.length X0p0, .slice X0a1 k0.b.length X0p1, .slice X0a2 k0.c.length X0p2, .slice X0a3 k0.d.length X0p3] 30)).heap.size := alX0.size
  have S0_7 : Hid _ := And.intro (HOwns.below S0_6.out.1 alX0) S0_6.out.2
  have S1_7 : Hid _ := And.intro (owns_below S1_6.out.1 alX0) S1_6.out.2
  have X0_7 : Hid _ := And.intro (KOwns.below X0_6.out.1 alX0) X0_6.out.2
  have C_7 : Hid _ := And.intro (C_6.out.1.trans (alX0.mono C_6.out.1.size)) True.intro
  have B_7 : Hid _ := And.intro (B_6.out.1.add (.cells #[.slice X0a0 k0.a.length X0p0, .slice X0a1 k0.b.length X0p1, .slice X0a2 k0.c.length X0p2, .slice X0a3 k0.d.length X0p3] 30)) True.intro
  have y_7 : (w5.alloc (.cells #[.slice X0a0 k0.a.length X0p0, .slice X0a1 k0.b.length X0p1, .slice X0a2 k0.c.length X0p2, .slice X0a3 k0.d.length X0p3] 30)).heap.size = w5.heap.size + 1 := by simp
  clear alX0
  go_wp2_with fail
  go_at_call 7
  refine (TB1.out _ (EN1.out.2.below C_7.out.1)).mono ?_
  rintro e w6 ⟨X1, rfl, oX1, bX1⟩
  have z_8 : (w5.alloc (.cells #[.slice X0a0 k0.a.length X0p0, .slice X0a1 k0.b.length X0p1, .slice X0a2 k0.c.length X0p2, .slice X0a3 k0.d.length X0p3] 30)).heap.size ≤ w6.heap.size := bX1.size
  have S0_8 : Hid _ := And.intro (HOwns.below S0_7.out.1 bX1) S0_7.out.2
  have S1_8 : Hid _ := And.intro (owns_below S1_7.out.1 bX1) S1_7.out.2
  have X0_8 : Hid _ := And.intro (KOwns.below X0_7.out.1 bX1) X0_7.out.2
  have C_8 : Hid _ := And.intro (C_7.out.1.trans (bX1.mono C_7.out.1.size)) True.intro
  have B_8 : Hid _ := And.intro (B_7.out.1.below bX1) True.intro
  have X1_8 : Hid _ := And.intro oX1 (fun g (hg : Value.ownBlock _ = some g) => oX1.lt g hg)
  clear oX1 bX1
  obtain ⟨ld00, ld01, ld02, ld03⟩ := B_8.out.1.c4 (b := w5.heap.size) (x0 := .slice X0a0 k0.a.length X0p0) (x1 := .slice X0a1 k0.b.length X0p1) (x2 := .slice X0a2 k0.c.length X0p2) (x3 := .slice X0a3 k0.d.length X0p3) (t := 30) (by simp)
  go_wp2_with fail
  go_at_call 8
  refine (HI.out.1 _ _ _ (HV.out.1 _ C_8.out.1) (KOwns.row X0_8.out.1) (row_of_owns X1_8.out.1)).mono ?_
  rintro e w7 ⟨G0, G1, rfl, oG0, oG1, dj, bG⟩
  clear ld00 ld01 ld02 ld03
  have DJ : Hid _ := And.intro dj True.intro
  clear dj
  have z_9 : w6.heap.size ≤ w7.heap.size := bG.size
  have S0_9 : Hid _ := And.intro (HOwns.below S0_8.out.1 bG) S0_8.out.2
  have S1_9 : Hid _ := And.intro (owns_below S1_8.out.1 bG) S1_8.out.2
  have X0_9 : Hid _ := And.intro (KOwns.below X0_8.out.1 bG) X0_8.out.2
  have X1_9 : Hid _ := And.intro (owns_below X1_8.out.1 bG) X1_8.out.2
  have C_9 : Hid _ := And.intro (C_8.out.1.trans (bG.mono C_8.out.1.size)) True.intro
  have B_9 : Hid _ := And.intro (B_8.out.1.below bG) True.intro
  have G0_9 : Hid _ := And.intro oG0 (fun g (hg : HBlk _ g) => HOwns.blk oG0 g hg)
  clear oG0
  have G1_9 : Hid _ := And.intro oG1 (fun g (hg : Value.ownBlock _ = some g) => oG1.lt g hg)
  clear oG1
  clear bG
  obtain ⟨G0a0, G0a1, G0a2, G0p0, G0p1, G0p2, eG0⟩ := HOwns.parts G0_9.out.1
  subst eG0
  have alG0 : Below w7.heap.size w7 (w7.alloc (.cells #[.int .i64 z0.f, .int .i64 z0.v, .slice G0a0 z0.d.length G0p0, .slice G0a1 z0.s.length G0p1, .slice G0a2 z0.t.length G0p2, .int .i64 z0.n, .int .i64 z0.l, .int .i64 z0.p] 27)) := (Below.refl _ _).alloc (Nat.le_refl _) _
  have z_10 : w7.heap.size ≤ (w7.alloc (.cells #[.int .i64 z0.f, .int .i64 z0.v, .slice G0a0 z0.d.length G0p0, .slice G0a1 z0.s.length G0p1, .slice G0a2 z0.t.length G0p2, .int .i64 z0.n, .int .i64 z0.l, .int .i64 z0.p] 27)).heap.size := alG0.size
  have S0_10 : Hid _ := And.intro (HOwns.below S0_9.out.1 alG0) S0_9.out.2
  have S1_10 : Hid _ := And.intro (owns_below S1_9.out.1 alG0) S1_9.out.2
  have X0_10 : Hid _ := And.intro (KOwns.below X0_9.out.1 alG0) X0_9.out.2
  have X1_10 : Hid _ := And.intro (owns_below X1_9.out.1 alG0) X1_9.out.2
  have G0_10 : Hid _ := And.intro (HOwns.below G0_9.out.1 alG0) G0_9.out.2
  have G1_10 : Hid _ := And.intro (owns_below G1_9.out.1 alG0) G1_9.out.2
  have C_10 : Hid _ := And.intro (C_9.out.1.trans (alG0.mono C_9.out.1.size)) True.intro
  have B_10 : Hid _ := And.intro (B_9.out.1.add (.cells #[.int .i64 z0.f, .int .i64 z0.v, .slice G0a0 z0.d.length G0p0, .slice G0a1 z0.s.length G0p1, .slice G0a2 z0.t.length G0p2, .int .i64 z0.n, .int .i64 z0.l, .int .i64 z0.p] 27)) True.intro
  have y_10 : (w7.alloc (.cells #[.int .i64 z0.f, .int .i64 z0.v, .slice G0a0 z0.d.length G0p0, .slice G0a1 z0.s.length G0p1, .slice G0a2 z0.t.length G0p2, .int .i64 z0.n, .int .i64 z0.l, .int .i64 z0.p] 27)).heap.size = w7.heap.size + 1 := by simp
  clear alG0
  obtain ⟨ld00, ld01, ld02, ld03, ld04, ld05, ld06, ld07⟩ := B_10.out.1.c8 (b := w7.heap.size) (x0 := .int .i64 z0.f) (x1 := .int .i64 z0.v) (x2 := .slice G0a0 z0.d.length G0p0) (x3 := .slice G0a1 z0.s.length G0p1) (x4 := .slice G0a2 z0.t.length G0p2) (x5 := .int .i64 z0.n) (x6 := .int .i64 z0.l) (x7 := .int .i64 z0.p) (t := 27) (by simp)
  obtain ⟨ld10, ld11, ld12, ld13, ld14, ld15, ld16, ld17⟩ := B_10.out.1.c8 (b := w4.heap.size) (x0 := .int .i64 z0.f) (x1 := .int .i64 z0.v) (x2 := .slice S0a0 z0.d.length S0p0) (x3 := .slice S0a1 z0.s.length S0p1) (x4 := .slice S0a2 z0.t.length S0p2) (x5 := .int .i64 z0.n) (x6 := .int .i64 z0.l) (x7 := .int .i64 z0.p) (t := 27) (by simp)
  go_wp2_with fail
  go_at_call 9
  refine (eqHead_same _ _ z0 _ (HOwns.row G0_10.out.1) (HOwns.row S0_10.out.1) (h8small_mono LR.out.1 (by decide))).mono ?_
  rintro e w8 ⟨rfl, bw8⟩
  have z_11 : (w7.alloc (.cells #[.int .i64 z0.f, .int .i64 z0.v, .slice G0a0 z0.d.length G0p0, .slice G0a1 z0.s.length G0p1, .slice G0a2 z0.t.length G0p2, .int .i64 z0.n, .int .i64 z0.l, .int .i64 z0.p] 27)).heap.size ≤ w8.heap.size := bw8.size
  have S0_11 : Hid _ := And.intro (HOwns.below S0_10.out.1 bw8) S0_10.out.2
  have S1_11 : Hid _ := And.intro (owns_below S1_10.out.1 bw8) S1_10.out.2
  have X0_11 : Hid _ := And.intro (KOwns.below X0_10.out.1 bw8) X0_10.out.2
  have X1_11 : Hid _ := And.intro (owns_below X1_10.out.1 bw8) X1_10.out.2
  have G0_11 : Hid _ := And.intro (HOwns.below G0_10.out.1 bw8) G0_10.out.2
  have G1_11 : Hid _ := And.intro (owns_below G1_10.out.1 bw8) G1_10.out.2
  have C_11 : Hid _ := And.intro (C_10.out.1.trans (bw8.mono C_10.out.1.size)) True.intro
  have B_11 : Hid _ := And.intro (B_10.out.1.below bw8) True.intro
  clear bw8
  clear ld00 ld01 ld02 ld03 ld04 ld05 ld06 ld07 ld10 ld11 ld12 ld13 ld14 ld15 ld16 ld17
  go_wp2_with fail
  go_at_call 10
  refine (eqBytes_same _ _ y1 _ (row_of_owns G1_11.out.1) (row_of_owns S1_11.out.1) (by rw [← EM.out.1]; omega)).mono ?_
  rintro e w9 ⟨rfl, mw9, hw⟩
  have dw9 : Below w8.heap.size w8 w9 := by rw [hw]; exact below_drewN (Below.refl _ _) mw9
  clear hw
  have z_12 : w8.heap.size ≤ w9.heap.size := dw9.size
  have S0_12 : Hid _ := And.intro (HOwns.below S0_11.out.1 dw9) S0_11.out.2
  have S1_12 : Hid _ := And.intro (owns_below S1_11.out.1 dw9) S1_11.out.2
  have X0_12 : Hid _ := And.intro (KOwns.below X0_11.out.1 dw9) X0_11.out.2
  have X1_12 : Hid _ := And.intro (owns_below X1_11.out.1 dw9) X1_11.out.2
  have G0_12 : Hid _ := And.intro (HOwns.below G0_11.out.1 dw9) G0_11.out.2
  have G1_12 : Hid _ := And.intro (owns_below G1_11.out.1 dw9) G1_11.out.2
  have C_12 : Hid _ := And.intro (C_11.out.1.trans (dw9.mono C_11.out.1.size)) True.intro
  have B_12 : Hid _ := And.intro (B_11.out.1.below dw9) True.intro
  clear dw9
  go_upto_region 13 with fail
  go_cut [75] from 71 to 75 (fun cv wx => cv = .bool false ∧ Below w9.heap.size w9 wx)
  case first =>
    have D : Hid (Below w9.heap.size w9 w9.drew) := ⟨rfl, rfl, rfl, Nat.le_refl _, fun _ _ => rfl⟩
    have CD : Hid _ := And.intro (C_12.out.1.trans (D.out.mono C_12.out.1.size)) True.intro
    obtain ⟨ld00, ld01, ld02, ld03⟩ := (B_12.out.1.drew).c4 (b := w5.heap.size) (x0 := .slice X0a0 k0.a.length X0p0) (x1 := .slice X0a1 k0.b.length X0p1) (x2 := .slice X0a2 k0.c.length X0p2) (x3 := .slice X0a3 k0.d.length X0p3) (t := 30) (by simp)
    obtain ⟨ld10, ld11, ld12, ld13⟩ := (B_12.out.1.drew).c4 (b := w.heap.size) (x0 := d0) (x1 := d1) (x2 := d2) (x3 := d3) (t := 24) (by simp)
    go_region_with (first
      | (go_at_call 6; refine (TB0.out w9.drew (KRow.below EN0.out.2.1 CD.out.1)).mono ?_; rintro e wy ⟨ry, rfl, oy, by'⟩; obtain ⟨le0, le1, le2, le3⟩ := (B_12.out.1.drew.below by').c4 (b := w5.heap.size) (x0 := .slice X0a0 k0.a.length X0p0) (x1 := .slice X0a1 k0.b.length X0p1) (x2 := .slice X0a2 k0.c.length X0p2) (x3 := .slice X0a3 k0.d.length X0p3) (t := 30) (by simp))
      | (go_at_call 11; refine (eqKeys_same _ _ k0 wy (KOwns.row ((KOwns.below X0_12.out.1 D.out).below by')) oy.row (small_mono EN0.out.1 (by decide))).mono ?_; rintro e wz ⟨rfl, bz⟩))
    all_goals (go_wp2_with fail; go_meet; exact ⟨rfl, D.out.trans ((by'.trans (bz.mono by'.size)).mono D.out.size)⟩)
  case rest =>
  obtain ⟨rfl, bc⟩ := hcut
  have z_13 : w9.heap.size ≤ wc.heap.size := bc.size
  have S0_13 : Hid _ := And.intro (HOwns.below S0_12.out.1 bc) S0_12.out.2
  have S1_13 : Hid _ := And.intro (owns_below S1_12.out.1 bc) S1_12.out.2
  have X0_13 : Hid _ := And.intro (KOwns.below X0_12.out.1 bc) X0_12.out.2
  have X1_13 : Hid _ := And.intro (owns_below X1_12.out.1 bc) X1_12.out.2
  have G0_13 : Hid _ := And.intro (HOwns.below G0_12.out.1 bc) G0_12.out.2
  have G1_13 : Hid _ := And.intro (owns_below G1_12.out.1 bc) G1_12.out.2
  have C_13 : Hid _ := And.intro (C_12.out.1.trans (bc.mono C_12.out.1.size)) True.intro
  have B_13 : Hid _ := And.intro (B_12.out.1.below bc) True.intro
  clear bc
  go_wp2_with fail
  go_at_call 7
  refine (TB1.out _ (EN1.out.2.below C_13.out.1)).mono ?_
  rintro e w10 ⟨Y1, rfl, oY1, bY1⟩
  have z_14 : wc.heap.size ≤ w10.heap.size := bY1.size
  have S0_14 : Hid _ := And.intro (HOwns.below S0_13.out.1 bY1) S0_13.out.2
  have S1_14 : Hid _ := And.intro (owns_below S1_13.out.1 bY1) S1_13.out.2
  have X0_14 : Hid _ := And.intro (KOwns.below X0_13.out.1 bY1) X0_13.out.2
  have X1_14 : Hid _ := And.intro (owns_below X1_13.out.1 bY1) X1_13.out.2
  have G0_14 : Hid _ := And.intro (HOwns.below G0_13.out.1 bY1) G0_13.out.2
  have G1_14 : Hid _ := And.intro (owns_below G1_13.out.1 bY1) G1_13.out.2
  have C_14 : Hid _ := And.intro (C_13.out.1.trans (bY1.mono C_13.out.1.size)) True.intro
  have B_14 : Hid _ := And.intro (B_13.out.1.below bY1) True.intro
  have Y1_14 : Hid _ := And.intro oY1 (fun g (hg : Value.ownBlock _ = some g) => oY1.lt g hg)
  clear oY1 bY1
  go_wp2_with fail
  go_at_call 10
  refine (eqBytes_same _ _ x1 _ (row_of_owns X1_14.out.1) (row_of_owns Y1_14.out.1) (by rw [← EN1.out.1]; omega)).mono ?_
  rintro e w11 ⟨rfl, mw11, hw⟩
  have dw11 : Below w10.heap.size w10 w11 := by rw [hw]; exact below_drewN (Below.refl _ _) mw11
  clear hw
  have z_15 : w10.heap.size ≤ w11.heap.size := dw11.size
  have S0_15 : Hid _ := And.intro (HOwns.below S0_14.out.1 dw11) S0_14.out.2
  have S1_15 : Hid _ := And.intro (owns_below S1_14.out.1 dw11) S1_14.out.2
  have X0_15 : Hid _ := And.intro (KOwns.below X0_14.out.1 dw11) X0_14.out.2
  have X1_15 : Hid _ := And.intro (owns_below X1_14.out.1 dw11) X1_14.out.2
  have G0_15 : Hid _ := And.intro (HOwns.below G0_14.out.1 dw11) G0_14.out.2
  have G1_15 : Hid _ := And.intro (owns_below G1_14.out.1 dw11) G1_14.out.2
  have Y1_15 : Hid _ := And.intro (owns_below Y1_14.out.1 dw11) Y1_14.out.2
  have C_15 : Hid _ := And.intro (C_14.out.1.trans (dw11.mono C_14.out.1.size)) True.intro
  have B_15 : Hid _ := And.intro (B_14.out.1.below dw11) True.intro
  clear dw11
  obtain ⟨ld00, ld01, ld02, ld03⟩ := B_15.out.1.c4 (b := w5.heap.size) (x0 := .slice X0a0 k0.a.length X0p0) (x1 := .slice X0a1 k0.b.length X0p1) (x2 := .slice X0a2 k0.c.length X0p2) (x3 := .slice X0a3 k0.d.length X0p3) (t := 30) (by simp)
  go_wp2_with fail
  go_at_call 12
  refine (markKeys 1 _ _ k0 _ (small_mono EN0.out.1 (by decide)) (by omega) (by omega) X0_15.out.1).mono ?_
  rintro e w12 ⟨rfl, om, ch⟩
  have z_16 : w11.heap.size ≤ w12.heap.size := ch.size
  have S0_16 : Hid _ := And.intro (ch.howns2 S0_15.out.1 (fun g hg hs => by have p1 := S0_15.out.2 g hg; have p2 := X0_15.out.2 g hs; omega)) S0_15.out.2
  have S1_16 : Hid _ := And.intro (ch.owns S1_15.out.1 (fun g hg hs => by have p1 := S1_15.out.2 g hg; have p2 := X0_15.out.2 g hs; omega)) S1_15.out.2
  have X1_16 : Hid _ := And.intro (ch.owns X1_15.out.1 (fun g hg hs => by have p1 := X1_15.out.2 g hg; have p2 := X0_15.out.2 g hs; omega)) X1_15.out.2
  have G0_16 : Hid _ := And.intro (ch.howns2 G0_15.out.1 (fun g hg hs => by have p1 := G0_15.out.2 g hg; have p2 := X0_15.out.2 g hs; omega)) G0_15.out.2
  have G1_16 : Hid _ := And.intro (ch.owns G1_15.out.1 (fun g hg hs => by have p1 := G1_15.out.2 g hg; have p2 := X0_15.out.2 g hs; omega)) G1_15.out.2
  have C_16 : Hid _ := And.intro (C_15.out.1.trans (ch.below C_15.out.1.size (fun g hg => by have p2 := X0_15.out.2 g hg; omega))) True.intro
  have B_16 : Hid _ := And.intro (B_15.out.1.chg ch (fun b o hm hs => by have p2 := X0_15.out.2 b hs; simp at hm; rcases hm with ⟨hm, _⟩ | ⟨hm, _⟩ | ⟨hm, _⟩ | ⟨hm, _⟩ <;> omega)) True.intro
  have X0_16 : Hid _ := And.intro (show KOwns _ _ _ _ from om) X0_15.out.2
  clear om ch
  clear ld00 ld01 ld02 ld03
  go_wp2_with fail
  go_at_call 13
  refine (markBytes (1 + (k0.a.length : Int) + (k0.b.length : Int) + (k0.c.length : Int) + (k0.d.length : Int)) n1 _ _ x1 _ (by omega) (by omega) (by omega) (by have h := X1_16.out.1; rw [← EN1.out.1] at h; exact h)).mono ?_
  rintro e w13 ⟨rfl, om, bm, zm, om'⟩
  have ch : Chg (fun g => Value.ownBlock _ = some g) _ _ := Chg.of_only om' (fun g e => e)
  have z_17 : w12.heap.size ≤ w13.heap.size := ch.size
  have S0_17 : Hid _ := And.intro (ch.howns2 S0_16.out.1 (fun g hg hs => by have p1 := S0_16.out.2 g hg; have p2 := X1_16.out.2 g hs; omega)) S0_16.out.2
  have S1_17 : Hid _ := And.intro (ch.owns S1_16.out.1 (fun g hg hs => by have p1 := S1_16.out.2 g hg; have p2 := X1_16.out.2 g hs; omega)) S1_16.out.2
  have X0_17 : Hid _ := And.intro (ch.kowns2 X0_16.out.1 (fun g hg hs => by have p1 := X0_16.out.2 g hg; have p2 := X1_16.out.2 g hs; omega)) X0_16.out.2
  have G0_17 : Hid _ := And.intro (ch.howns2 G0_16.out.1 (fun g hg hs => by have p1 := G0_16.out.2 g hg; have p2 := X1_16.out.2 g hs; omega)) G0_16.out.2
  have G1_17 : Hid _ := And.intro (ch.owns G1_16.out.1 (fun g hg hs => by have p1 := G1_16.out.2 g hg; have p2 := X1_16.out.2 g hs; omega)) G1_16.out.2
  have C_17 : Hid _ := And.intro (C_16.out.1.trans (ch.below C_16.out.1.size (fun g hg => by have p2 := X1_16.out.2 g hg; omega))) True.intro
  have B_17 : Hid _ := And.intro (B_16.out.1.chg ch (fun b o hm hs => by have p2 := X1_16.out.2 b hs; simp at hm; rcases hm with ⟨hm, _⟩ | ⟨hm, _⟩ | ⟨hm, _⟩ | ⟨hm, _⟩ <;> omega)) True.intro
  have X1_17 : Hid _ := And.intro om X1_16.out.2
  clear om bm zm om' ch
  obtain ⟨ld00, ld01, ld02, ld03, ld04, ld05, ld06, ld07⟩ := B_17.out.1.c8 (b := w7.heap.size) (x0 := .int .i64 z0.f) (x1 := .int .i64 z0.v) (x2 := .slice G0a0 z0.d.length G0p0) (x3 := .slice G0a1 z0.s.length G0p1) (x4 := .slice G0a2 z0.t.length G0p2) (x5 := .int .i64 z0.n) (x6 := .int .i64 z0.l) (x7 := .int .i64 z0.p) (t := 27) (by simp)
  obtain ⟨ld10, ld11, ld12, ld13, ld14, ld15, ld16, ld17⟩ := B_17.out.1.c8 (b := w4.heap.size) (x0 := .int .i64 z0.f) (x1 := .int .i64 z0.v) (x2 := .slice S0a0 z0.d.length S0p0) (x3 := .slice S0a1 z0.s.length S0p1) (x4 := .slice S0a2 z0.t.length S0p2) (x5 := .int .i64 z0.n) (x6 := .int .i64 z0.l) (x7 := .int .i64 z0.p) (t := 27) (by simp)
  go_wp2_with fail
  go_at_call 9
  refine (eqHead_same _ _ z0 _ (HOwns.row G0_17.out.1) (HOwns.row S0_17.out.1) (h8small_mono LR.out.1 (by decide))).mono ?_
  rintro e w14 ⟨rfl, bw14⟩
  have z_18 : w13.heap.size ≤ w14.heap.size := bw14.size
  have S0_18 : Hid _ := And.intro (HOwns.below S0_17.out.1 bw14) S0_17.out.2
  have S1_18 : Hid _ := And.intro (owns_below S1_17.out.1 bw14) S1_17.out.2
  have X0_18 : Hid _ := And.intro (KOwns.below X0_17.out.1 bw14) X0_17.out.2
  have X1_18 : Hid _ := And.intro (owns_below X1_17.out.1 bw14) X1_17.out.2
  have G0_18 : Hid _ := And.intro (HOwns.below G0_17.out.1 bw14) G0_17.out.2
  have G1_18 : Hid _ := And.intro (owns_below G1_17.out.1 bw14) G1_17.out.2
  have C_18 : Hid _ := And.intro (C_17.out.1.trans (bw14.mono C_17.out.1.size)) True.intro
  have B_18 : Hid _ := And.intro (B_17.out.1.below bw14) True.intro
  clear bw14
  clear ld00 ld01 ld02 ld03 ld04 ld05 ld06 ld07 ld10 ld11 ld12 ld13 ld14 ld15 ld16 ld17
  go_wp2_with fail
  go_at_call 10
  refine (eqBytes_same _ _ y1 _ (row_of_owns G1_18.out.1) (row_of_owns S1_18.out.1) (by rw [← EM.out.1]; omega)).mono ?_
  rintro e w15 ⟨rfl, mw15, hw⟩
  have dw15 : Below w14.heap.size w14 w15 := by rw [hw]; exact below_drewN (Below.refl _ _) mw15
  clear hw
  have z_19 : w14.heap.size ≤ w15.heap.size := dw15.size
  have S0_19 : Hid _ := And.intro (HOwns.below S0_18.out.1 dw15) S0_18.out.2
  have S1_19 : Hid _ := And.intro (owns_below S1_18.out.1 dw15) S1_18.out.2
  have X0_19 : Hid _ := And.intro (KOwns.below X0_18.out.1 dw15) X0_18.out.2
  have X1_19 : Hid _ := And.intro (owns_below X1_18.out.1 dw15) X1_18.out.2
  have G0_19 : Hid _ := And.intro (HOwns.below G0_18.out.1 dw15) G0_18.out.2
  have G1_19 : Hid _ := And.intro (owns_below G1_18.out.1 dw15) G1_18.out.2
  have C_19 : Hid _ := And.intro (C_18.out.1.trans (dw15.mono C_18.out.1.size)) True.intro
  have B_19 : Hid _ := And.intro (B_18.out.1.below dw15) True.intro
  clear dw15
  obtain ⟨ld00, ld01, ld02, ld03, ld04, ld05, ld06, ld07⟩ := B_19.out.1.c8 (b := w7.heap.size) (x0 := .int .i64 z0.f) (x1 := .int .i64 z0.v) (x2 := .slice G0a0 z0.d.length G0p0) (x3 := .slice G0a1 z0.s.length G0p1) (x4 := .slice G0a2 z0.t.length G0p2) (x5 := .int .i64 z0.n) (x6 := .int .i64 z0.l) (x7 := .int .i64 z0.p) (t := 27) (by simp)
  go_wp2_with fail
  go_at_call 14
  refine (markHead 1 _ _ z0 _ (h8small_mono LR.out.1 (by decide)) (by omega) (by omega) G0_19.out.1).mono ?_
  rintro e w16 ⟨rfl, om, ch⟩
  have z_20 : w15.heap.size ≤ w16.heap.size := ch.size
  have S0_20 : Hid _ := And.intro (ch.howns2 S0_19.out.1 (fun g hg hs => by have p1 := S0_19.out.2 g hg; have p2 := G0_19.out.2 g hs; omega)) S0_19.out.2
  have S1_20 : Hid _ := And.intro (ch.owns S1_19.out.1 (fun g hg hs => by have p1 := S1_19.out.2 g hg; have p2 := G0_19.out.2 g hs; omega)) S1_19.out.2
  have X0_20 : Hid _ := And.intro (ch.kowns2 X0_19.out.1 (fun g hg hs => by have p1 := X0_19.out.2 g hg; have p2 := G0_19.out.2 g hs; omega)) X0_19.out.2
  have X1_20 : Hid _ := And.intro (ch.owns X1_19.out.1 (fun g hg hs => by have p1 := X1_19.out.2 g hg; have p2 := G0_19.out.2 g hs; omega)) X1_19.out.2
  have G1_20 : Hid _ := And.intro (ch.owns G1_19.out.1 (fun g hg hs => DJ.out.1 g hs hg)) G1_19.out.2
  have C_20 : Hid _ := And.intro (C_19.out.1.trans (ch.below C_19.out.1.size (fun g hg => by have p2 := G0_19.out.2 g hg; omega))) True.intro
  have B_20 : Hid _ := And.intro (B_19.out.1.chg ch (fun b o hm hs => by have p2 := G0_19.out.2 b hs; simp at hm; rcases hm with ⟨hm, _⟩ | ⟨hm, _⟩ | ⟨hm, _⟩ | ⟨hm, _⟩ <;> omega)) True.intro
  have G0_20 : Hid _ := And.intro (show HOwns _ _ _ _ from om) G0_19.out.2
  clear om ch
  clear ld00 ld01 ld02 ld03 ld04 ld05 ld06 ld07
  go_wp2_with fail
  go_at_call 13
  refine (markBytes (1 + (z0.d.length : Int) + (z0.s.length : Int) + (z0.t.length : Int)) m _ _ y1 _ (by omega) (by omega) (by omega) (G1_20.out.1)).mono ?_
  rintro e w17 ⟨rfl, om, bm, zm, om'⟩
  have ch : Chg (fun g => Value.ownBlock _ = some g) _ _ := Chg.of_only om' (fun g e => e)
  have z_21 : w16.heap.size ≤ w17.heap.size := ch.size
  have S0_21 : Hid _ := And.intro (ch.howns2 S0_20.out.1 (fun g hg hs => by have p1 := S0_20.out.2 g hg; have p2 := G1_20.out.2 g hs; omega)) S0_20.out.2
  have S1_21 : Hid _ := And.intro (ch.owns S1_20.out.1 (fun g hg hs => by have p1 := S1_20.out.2 g hg; have p2 := G1_20.out.2 g hs; omega)) S1_20.out.2
  have X0_21 : Hid _ := And.intro (ch.kowns2 X0_20.out.1 (fun g hg hs => by have p1 := X0_20.out.2 g hg; have p2 := G1_20.out.2 g hs; omega)) X0_20.out.2
  have X1_21 : Hid _ := And.intro (ch.owns X1_20.out.1 (fun g hg hs => by have p1 := X1_20.out.2 g hg; have p2 := G1_20.out.2 g hs; omega)) X1_20.out.2
  have G0_21 : Hid _ := And.intro (ch.howns2 G0_20.out.1 (fun g hg hs => DJ.out.1 g hg hs)) G0_20.out.2
  have C_21 : Hid _ := And.intro (C_20.out.1.trans (ch.below C_20.out.1.size (fun g hg => by have p2 := G1_20.out.2 g hg; omega))) True.intro
  have B_21 : Hid _ := And.intro (B_20.out.1.chg ch (fun b o hm hs => by have p2 := G1_20.out.2 b hs; simp at hm; rcases hm with ⟨hm, _⟩ | ⟨hm, _⟩ | ⟨hm, _⟩ | ⟨hm, _⟩ <;> omega)) True.intro
  have G1_21 : Hid _ := And.intro om G1_20.out.2
  clear om bm zm om' ch
  obtain ⟨ld00, ld01, ld02, ld03, ld04, ld05, ld06, ld07⟩ := B_21.out.1.c8 (b := w7.heap.size) (x0 := .int .i64 z0.f) (x1 := .int .i64 z0.v) (x2 := .slice G0a0 z0.d.length G0p0) (x3 := .slice G0a1 z0.s.length G0p1) (x4 := .slice G0a2 z0.t.length G0p2) (x5 := .int .i64 z0.n) (x6 := .int .i64 z0.l) (x7 := .int .i64 z0.p) (t := 27) (by simp)
  go_wp2_with fail
  go_at_call 15
  refine (heldHead 1 _ z0 _ (h8small_mono LR.out.1 (by decide)) (by decide) (by decide) (HOwns.row G0_21.out.1)).mono ?_
  rintro e w18 ⟨rfl, bh⟩
  have z_22 : w17.heap.size ≤ w18.heap.size := bh.size
  have S0_22 : Hid _ := And.intro (HOwns.below S0_21.out.1 bh) S0_21.out.2
  have S1_22 : Hid _ := And.intro (owns_below S1_21.out.1 bh) S1_21.out.2
  have X0_22 : Hid _ := And.intro (KOwns.below X0_21.out.1 bh) X0_21.out.2
  have X1_22 : Hid _ := And.intro (owns_below X1_21.out.1 bh) X1_21.out.2
  have G0_22 : Hid _ := And.intro (HOwns.below G0_21.out.1 bh) G0_21.out.2
  have G1_22 : Hid _ := And.intro (owns_below G1_21.out.1 bh) G1_21.out.2
  have C_22 : Hid _ := And.intro (C_21.out.1.trans (bh.mono C_21.out.1.size)) True.intro
  have B_22 : Hid _ := And.intro (B_21.out.1.below bh) True.intro
  clear bh
  clear ld00 ld01 ld02 ld03 ld04 ld05 ld06 ld07
  go_wp2_with fail
  go_at_call 16
  refine (heldBytes (1 + (z0.d.length : Int) + (z0.s.length : Int) + (z0.t.length : Int)) m _ _ (row_of_owns G1_22.out.1) (by omega) (by omega) (by omega)).mono ?_
  rintro e w19 ⟨rfl, hw⟩
  subst w19
  obtain ⟨ld00, ld01, ld02, ld03⟩ := B_22.out.1.c4 (b := w.heap.size) (x0 := d0) (x1 := d1) (x2 := d2) (x3 := d3) (t := 24) (by simp)
  go_wp2_with fail
  go_at_call 6
  refine (TB0.out _ (KRow.below EN0.out.2.1 C_22.out.1)).mono ?_
  rintro e w20 ⟨H0, rfl, oH0, bH0⟩
  clear ld00 ld01 ld02 ld03
  have z_23 : w18.heap.size ≤ w20.heap.size := bH0.size
  have S0_23 : Hid _ := And.intro (HOwns.below S0_22.out.1 bH0) S0_22.out.2
  have S1_23 : Hid _ := And.intro (owns_below S1_22.out.1 bH0) S1_22.out.2
  have X0_23 : Hid _ := And.intro (KOwns.below X0_22.out.1 bH0) X0_22.out.2
  have X1_23 : Hid _ := And.intro (owns_below X1_22.out.1 bH0) X1_22.out.2
  have G0_23 : Hid _ := And.intro (HOwns.below G0_22.out.1 bH0) G0_22.out.2
  have G1_23 : Hid _ := And.intro (owns_below G1_22.out.1 bH0) G1_22.out.2
  have C_23 : Hid _ := And.intro (C_22.out.1.trans (bH0.mono C_22.out.1.size)) True.intro
  have B_23 : Hid _ := And.intro (B_22.out.1.below bH0) True.intro
  have H0_23 : Hid _ := And.intro oH0 (fun g (hg : KBlk _ g) => KOwns.blk oH0 g hg)
  clear oH0 bH0
  go_wp2_with fail
  go_at_call 7
  refine (TB1.out _ (EN1.out.2.below C_23.out.1)).mono ?_
  rintro e w21 ⟨H1, rfl, oH1, bH1⟩
  have z_24 : w20.heap.size ≤ w21.heap.size := bH1.size
  have S0_24 : Hid _ := And.intro (HOwns.below S0_23.out.1 bH1) S0_23.out.2
  have S1_24 : Hid _ := And.intro (owns_below S1_23.out.1 bH1) S1_23.out.2
  have X0_24 : Hid _ := And.intro (KOwns.below X0_23.out.1 bH1) X0_23.out.2
  have X1_24 : Hid _ := And.intro (owns_below X1_23.out.1 bH1) X1_23.out.2
  have G0_24 : Hid _ := And.intro (HOwns.below G0_23.out.1 bH1) G0_23.out.2
  have G1_24 : Hid _ := And.intro (owns_below G1_23.out.1 bH1) G1_23.out.2
  have H0_24 : Hid _ := And.intro (KOwns.below H0_23.out.1 bH1) H0_23.out.2
  have C_24 : Hid _ := And.intro (C_23.out.1.trans (bH1.mono C_23.out.1.size)) True.intro
  have B_24 : Hid _ := And.intro (B_23.out.1.below bH1) True.intro
  have H1_24 : Hid _ := And.intro oH1 (fun g (hg : Value.ownBlock _ = some g) => oH1.lt g hg)
  clear oH1 bH1
  go_wp2_with fail
  go_at_call 8
  refine (HI.out.1 _ _ _ (HV.out.1 _ C_24.out.1) (KOwns.row H0_24.out.1) (row_of_owns H1_24.out.1)).mono ?_
  rintro e w22 ⟨J0, J1, rfl, oJ0, oJ1, dj, bJ⟩
  clear dj
  have z_25 : w21.heap.size ≤ w22.heap.size := bJ.size
  have S0_25 : Hid _ := And.intro (HOwns.below S0_24.out.1 bJ) S0_24.out.2
  have S1_25 : Hid _ := And.intro (owns_below S1_24.out.1 bJ) S1_24.out.2
  have X0_25 : Hid _ := And.intro (KOwns.below X0_24.out.1 bJ) X0_24.out.2
  have X1_25 : Hid _ := And.intro (owns_below X1_24.out.1 bJ) X1_24.out.2
  have G0_25 : Hid _ := And.intro (HOwns.below G0_24.out.1 bJ) G0_24.out.2
  have G1_25 : Hid _ := And.intro (owns_below G1_24.out.1 bJ) G1_24.out.2
  have H0_25 : Hid _ := And.intro (KOwns.below H0_24.out.1 bJ) H0_24.out.2
  have H1_25 : Hid _ := And.intro (owns_below H1_24.out.1 bJ) H1_24.out.2
  have C_25 : Hid _ := And.intro (C_24.out.1.trans (bJ.mono C_24.out.1.size)) True.intro
  have B_25 : Hid _ := And.intro (B_24.out.1.below bJ) True.intro
  have J0_25 : Hid _ := And.intro oJ0 (fun g (hg : HBlk _ g) => HOwns.blk oJ0 g hg)
  clear oJ0
  have J1_25 : Hid _ := And.intro oJ1 (fun g (hg : Value.ownBlock _ = some g) => oJ1.lt g hg)
  clear oJ1
  clear bJ
  obtain ⟨J0a0, J0a1, J0a2, J0p0, J0p1, J0p2, eJ0⟩ := HOwns.parts J0_25.out.1
  subst eJ0
  have alJ0 : Below w22.heap.size w22 (w22.alloc (.cells #[.int .i64 z0.f, .int .i64 z0.v, .slice J0a0 z0.d.length J0p0, .slice J0a1 z0.s.length J0p1, .slice J0a2 z0.t.length J0p2, .int .i64 z0.n, .int .i64 z0.l, .int .i64 z0.p] 27)) := (Below.refl _ _).alloc (Nat.le_refl _) _
  have z_26 : w22.heap.size ≤ (w22.alloc (.cells #[.int .i64 z0.f, .int .i64 z0.v, .slice J0a0 z0.d.length J0p0, .slice J0a1 z0.s.length J0p1, .slice J0a2 z0.t.length J0p2, .int .i64 z0.n, .int .i64 z0.l, .int .i64 z0.p] 27)).heap.size := alJ0.size
  have S0_26 : Hid _ := And.intro (HOwns.below S0_25.out.1 alJ0) S0_25.out.2
  have S1_26 : Hid _ := And.intro (owns_below S1_25.out.1 alJ0) S1_25.out.2
  have X0_26 : Hid _ := And.intro (KOwns.below X0_25.out.1 alJ0) X0_25.out.2
  have X1_26 : Hid _ := And.intro (owns_below X1_25.out.1 alJ0) X1_25.out.2
  have G0_26 : Hid _ := And.intro (HOwns.below G0_25.out.1 alJ0) G0_25.out.2
  have G1_26 : Hid _ := And.intro (owns_below G1_25.out.1 alJ0) G1_25.out.2
  have J0_26 : Hid _ := And.intro (HOwns.below J0_25.out.1 alJ0) J0_25.out.2
  have J1_26 : Hid _ := And.intro (owns_below J1_25.out.1 alJ0) J1_25.out.2
  have C_26 : Hid _ := And.intro (C_25.out.1.trans (alJ0.mono C_25.out.1.size)) True.intro
  have B_26 : Hid _ := And.intro (B_25.out.1.add (.cells #[.int .i64 z0.f, .int .i64 z0.v, .slice J0a0 z0.d.length J0p0, .slice J0a1 z0.s.length J0p1, .slice J0a2 z0.t.length J0p2, .int .i64 z0.n, .int .i64 z0.l, .int .i64 z0.p] 27)) True.intro
  have y_26 : (w22.alloc (.cells #[.int .i64 z0.f, .int .i64 z0.v, .slice J0a0 z0.d.length J0p0, .slice J0a1 z0.s.length J0p1, .slice J0a2 z0.t.length J0p2, .int .i64 z0.n, .int .i64 z0.l, .int .i64 z0.p] 27)).heap.size = w22.heap.size + 1 := by simp
  clear alJ0
  obtain ⟨ld00, ld01, ld02, ld03, ld04, ld05, ld06, ld07⟩ := B_26.out.1.c8 (b := w22.heap.size) (x0 := .int .i64 z0.f) (x1 := .int .i64 z0.v) (x2 := .slice J0a0 z0.d.length J0p0) (x3 := .slice J0a1 z0.s.length J0p1) (x4 := .slice J0a2 z0.t.length J0p2) (x5 := .int .i64 z0.n) (x6 := .int .i64 z0.l) (x7 := .int .i64 z0.p) (t := 27) (by simp)
  obtain ⟨ld10, ld11, ld12, ld13, ld14, ld15, ld16, ld17⟩ := B_26.out.1.c8 (b := w4.heap.size) (x0 := .int .i64 z0.f) (x1 := .int .i64 z0.v) (x2 := .slice S0a0 z0.d.length S0p0) (x3 := .slice S0a1 z0.s.length S0p1) (x4 := .slice S0a2 z0.t.length S0p2) (x5 := .int .i64 z0.n) (x6 := .int .i64 z0.l) (x7 := .int .i64 z0.p) (t := 27) (by simp)
  go_wp2_with fail
  go_at_call 9
  refine (eqHead_same _ _ z0 _ (HOwns.row J0_26.out.1) (HOwns.row S0_26.out.1) (h8small_mono LR.out.1 (by decide))).mono ?_
  rintro e w23 ⟨rfl, bw23⟩
  have z_27 : (w22.alloc (.cells #[.int .i64 z0.f, .int .i64 z0.v, .slice J0a0 z0.d.length J0p0, .slice J0a1 z0.s.length J0p1, .slice J0a2 z0.t.length J0p2, .int .i64 z0.n, .int .i64 z0.l, .int .i64 z0.p] 27)).heap.size ≤ w23.heap.size := bw23.size
  have S0_27 : Hid _ := And.intro (HOwns.below S0_26.out.1 bw23) S0_26.out.2
  have S1_27 : Hid _ := And.intro (owns_below S1_26.out.1 bw23) S1_26.out.2
  have X0_27 : Hid _ := And.intro (KOwns.below X0_26.out.1 bw23) X0_26.out.2
  have X1_27 : Hid _ := And.intro (owns_below X1_26.out.1 bw23) X1_26.out.2
  have G0_27 : Hid _ := And.intro (HOwns.below G0_26.out.1 bw23) G0_26.out.2
  have G1_27 : Hid _ := And.intro (owns_below G1_26.out.1 bw23) G1_26.out.2
  have J0_27 : Hid _ := And.intro (HOwns.below J0_26.out.1 bw23) J0_26.out.2
  have J1_27 : Hid _ := And.intro (owns_below J1_26.out.1 bw23) J1_26.out.2
  have C_27 : Hid _ := And.intro (C_26.out.1.trans (bw23.mono C_26.out.1.size)) True.intro
  have B_27 : Hid _ := And.intro (B_26.out.1.below bw23) True.intro
  clear bw23
  clear ld00 ld01 ld02 ld03 ld04 ld05 ld06 ld07 ld10 ld11 ld12 ld13 ld14 ld15 ld16 ld17
  go_wp2_with fail
  go_at_call 10
  refine (eqBytes_same _ _ y1 _ (row_of_owns J1_27.out.1) (row_of_owns S1_27.out.1) (by rw [← EM.out.1]; omega)).mono ?_
  rintro e w24 ⟨rfl, mw24, hw⟩
  have dw24 : Below w23.heap.size w23 w24 := by rw [hw]; exact below_drewN (Below.refl _ _) mw24
  clear hw
  have z_28 : w23.heap.size ≤ w24.heap.size := dw24.size
  have S0_28 : Hid _ := And.intro (HOwns.below S0_27.out.1 dw24) S0_27.out.2
  have S1_28 : Hid _ := And.intro (owns_below S1_27.out.1 dw24) S1_27.out.2
  have X0_28 : Hid _ := And.intro (KOwns.below X0_27.out.1 dw24) X0_27.out.2
  have X1_28 : Hid _ := And.intro (owns_below X1_27.out.1 dw24) X1_27.out.2
  have G0_28 : Hid _ := And.intro (HOwns.below G0_27.out.1 dw24) G0_27.out.2
  have G1_28 : Hid _ := And.intro (owns_below G1_27.out.1 dw24) G1_27.out.2
  have J0_28 : Hid _ := And.intro (HOwns.below J0_27.out.1 dw24) J0_27.out.2
  have J1_28 : Hid _ := And.intro (owns_below J1_27.out.1 dw24) J1_27.out.2
  have C_28 : Hid _ := And.intro (C_27.out.1.trans (dw24.mono C_27.out.1.size)) True.intro
  have B_28 : Hid _ := And.intro (B_27.out.1.below dw24) True.intro
  clear dw24
  obtain ⟨ld00, ld01, ld02, ld03, ld04, ld05, ld06, ld07⟩ := B_28.out.1.c8 (b := w7.heap.size) (x0 := .int .i64 z0.f) (x1 := .int .i64 z0.v) (x2 := .slice G0a0 z0.d.length G0p0) (x3 := .slice G0a1 z0.s.length G0p1) (x4 := .slice G0a2 z0.t.length G0p2) (x5 := .int .i64 z0.n) (x6 := .int .i64 z0.l) (x7 := .int .i64 z0.p) (t := 27) (by simp)
  go_wp2_with fail
  go_at_call 15
  refine (heldHead 1 _ z0 _ (h8small_mono LR.out.1 (by decide)) (by decide) (by decide) (HOwns.row G0_28.out.1)).mono ?_
  rintro e w25 ⟨rfl, bh⟩
  have z_29 : w24.heap.size ≤ w25.heap.size := bh.size
  have S0_29 : Hid _ := And.intro (HOwns.below S0_28.out.1 bh) S0_28.out.2
  have S1_29 : Hid _ := And.intro (owns_below S1_28.out.1 bh) S1_28.out.2
  have X0_29 : Hid _ := And.intro (KOwns.below X0_28.out.1 bh) X0_28.out.2
  have X1_29 : Hid _ := And.intro (owns_below X1_28.out.1 bh) X1_28.out.2
  have G0_29 : Hid _ := And.intro (HOwns.below G0_28.out.1 bh) G0_28.out.2
  have G1_29 : Hid _ := And.intro (owns_below G1_28.out.1 bh) G1_28.out.2
  have J0_29 : Hid _ := And.intro (HOwns.below J0_28.out.1 bh) J0_28.out.2
  have J1_29 : Hid _ := And.intro (owns_below J1_28.out.1 bh) J1_28.out.2
  have C_29 : Hid _ := And.intro (C_28.out.1.trans (bh.mono C_28.out.1.size)) True.intro
  have B_29 : Hid _ := And.intro (B_28.out.1.below bh) True.intro
  clear bh
  clear ld00 ld01 ld02 ld03 ld04 ld05 ld06 ld07
  go_wp2_with fail
  go_at_call 16
  refine (heldBytes (1 + (z0.d.length : Int) + (z0.s.length : Int) + (z0.t.length : Int)) m _ _ (row_of_owns G1_29.out.1) (by omega) (by omega) (by omega)).mono ?_
  rintro e w26 ⟨rfl, hw⟩
  subst w26
  go_wp2
  go_ret
  exact ⟨rfl, C_29.out.1⟩
/-- For arguments of whatever size: over the model's contract and the program's, where the sizes are within the law's. -/
theorem openPacket_walkOf (v0 : Value) (k0 : K4) (v1 : Value) (x1 : List Int) (a2 : Int) (a3 : Int) (z0 : H8) (y1 : List Int) (c2 : Int) (w : World) (Inv : World → Prop) (hInv : ∀ w' : World, Below w.heap.size w w' → Inv w') (sm0 : k0.small maxLen) (kb0 : k0.bytes) (l1 : x1.length ≤ maxLen) (wf1 : ∀ x ∈ x1, (Lit.int .u8 x).wf = true) (wf2 : (Lit.int .i64 a2).wf = true) (wf3 : (Lit.int .i64 a3).wf = true) (row0 : KRow w v0 k0) (row1 : Row w .u8 v1 x1) (lz : z0.small 1048576) (lr : y1.length ≤ 4194304)
    (hS : ∀ (w : World) (u0 : Value) (u1 : Value), KRow w u0 k0 → Row w .u8 u1 x1 → Calls Tryz.prog 5 #[u0, u1, .int .i64 a2, .int .i64 a3] w fun e w' => ∃ r0 r1, e = .returned (.tuple #[r0, r1, .int .i64 c2]) ∧ HOwns w' w.heap.size r0 z0 ∧ w'.ownsRow w.heap.size 5 1 r1 y1.length (y1.map (Value.int .u8)) ∧ (∀ g, HBlk r0 g → Value.ownBlock r1 = some g → False) ∧ Below w.heap.size w w')
    (hI : ∀ (w : World) (u0 : Value) (u1 : Value), Inv w → KRow w u0 k0 → Row w .u8 u1 x1 → Calls Tryz.prog 8 #[u0, u1, .int .i64 a2, .int .i64 a3] w fun e w' => ∃ r0 r1, e = .returned (.tuple #[r0, r1, .int .i64 c2]) ∧ HOwns w' w.heap.size r0 z0 ∧ w'.ownsRow w.heap.size 5 1 r1 y1.length (y1.map (Value.int .u8)) ∧ (∀ g, HBlk r0 g → Value.ownBlock r1 = some g → False) ∧ Below w.heap.size w w') :
    Calls Tryz.prog 3 #[v0, v1, .int .i64 a2, .int .i64 a3] w fun e w' => e = .returned (.bool true) ∧ Below w.heap.size w w' := by
  have m1 : x1.length ≤ 9223372036854775807 := by have h := l1; unfold maxLen at h; omega
  by_cases g1 : 1048576 < x1.length
  · obtain ⟨ao1, cp1, rfl⟩ := row1.form; exact openPacket_huge1 v0 k0 ao1 _ cp1 a2 a3 w row0 g1 m1
  · skip
    have sm9 : k0.small 9223372036854775807 := small_mono sm0 (by unfold maxLen; decide)
    by_cases gk : 1048576 < k0.total
    · obtain ⟨ao1, cp1, rfl⟩ := row1.form; exact openPacket_hugeK v0 k0 ao1 _ cp1 a2 a3 w row0 (by omega) sm9 gk
    · skip
      have tk : k0.total ≤ 1048576 := by omega
      have smk : k0.small 1048576 := by unfold K4.total at tk; exact ⟨by omega, by omega, by omega, by omega⟩
      exact openPacketLaw v0 k0 v1 x1 a2 a3 z0 y1 c2 w Inv hInv row0 smk tk row1 (by omega) lz lr hS hI
end Go.Proofs.YthokfbgpoffafaaGreatDoor
