import Derived.Test.YtcoakpmfappnlaaMem
namespace Go.Proofs.Ytcoakpmfappnlaa
open Go.RowKit
set_option linter.unusedVariables false

theorem held_nil (k : Int) (v : Value) (w : World) (h : Row w .u8 v []) :
    Calls Try.prog 46 #[v, .int .i64 k] w fun e w' => e = .returned (.int .i64 k) ∧ w' = w := by
  obtain ⟨ao, ca, rfl⟩ := h.form
  clear h
  go_enter Try.func46, Try.ntmps46
  go_wp2
  refine wp_loop_rounds 1 ?_
  rw [rounds_succ]
  go_wp2
  go_ret
  exact ⟨rfl, rfl⟩

set_option maxHeartbeats 400000 in
theorem held_core (q : Int) (n : Nat) (b off ca : Nat) (w : World) (hn : n ≤ 140737488355328) (hq0 : 0 ≤ q) (hq1 : q ≤ 140737488355328)
    (hc : ∀ j, j < n → w.cell? ⟨b, off + j, none⟩ = some (.int .u8 ((q + (j : Int)) % 256))) :
    Calls Try.prog 46 #[.slice (some ⟨b, off, none⟩) n ca, .int .i64 q] w fun e w' => e = .returned (.int .i64 (q + n)) ∧ w' = w := by
  have HC : Hid (∀ j, j < n → w.cell? ⟨b, off + j, none⟩ = some (.int .u8 ((q + (j : Int)) % 256))) := hc
  clear hc
  go_enter Try.func46, Try.ntmps46
  go_wp2
  go_loop [1, 5] (fun s i => ∃ k : Nat, k ≤ n ∧ i = .int .i64 k ∧ s = .int .i64 (q + k)) (fun _ i => n - (intOf i).toNat)
  case atStart => exact ⟨0, Nat.zero_le _, rfl, by simp⟩
  case round =>
    obtain ⟨k, hk, rfl, rfl⟩ := hrel
    by_cases hlt : k < n
    · have c1 := HC.out k hlt
      go_wp2
      go_round
      case rel => exact ⟨k + 1, by omega, by go_num, by go_num⟩
      case measure => simp [intOf]; omega
    · go_wp2
      go_ret
      obtain rfl : k = n := by omega
      exact ⟨rfl, rfl⟩

theorem heldBytes (q : Int) (n : Nat) (v : Value) (w : World) (h : Row w .u8 v (marks q n)) (hn : n ≤ 140737488355328) (hq0 : 0 ≤ q) (hq1 : q ≤ 140737488355328) :
    Calls Try.prog 46 #[v, .int .i64 q] w fun e w' => e = .returned (.int .i64 (q + n)) ∧ w' = w := by
  by_cases h0 : 0 < n
  · obtain ⟨b, off, ca, rfl, _, hc⟩ := h.at (by rw [marks_length]; exact h0)
    rw [marks_length] at hc ⊢
    exact held_core q n b off ca w hn hq0 hq1 (fun j hj => by rw [← marks_at q n j hj]; exact hc j hj)
  · obtain rfl : n = 0 := by omega
    have := held_nil q v w h
    simpa using this

theorem mark_nil (k : Int) (v : Value) (w : World) (h : Row w .u8 v []) :
    Calls Try.prog 44 #[v, .int .i64 k] w fun e w' => e = .returned (.int .i64 k) ∧ w' = w := by
  obtain ⟨ao, ca, rfl⟩ := h.form
  clear h
  go_enter Try.func44, Try.ntmps44
  go_wp2
  refine wp_loop_rounds 1 ?_
  rw [rounds_succ]
  go_wp2
  go_ret
  exact ⟨rfl, rfl⟩

/-- What one store of a round does. -/
theorem mark_step {e0 : Nat} {w wr : World} {base g n cap k : Nat} {q x : Int} {xs : List Int} (hx : x = (q + (k : Int)) % 256)
    (hl : xs.length = n) (hk : k < n) (hm : ∀ j, j < k → xs.getD j 0 = (q + (j : Int)) % 256)
    (hown : wr.ownsRow base e0 1 (.slice (some ⟨g, 0, none⟩) n cap) n (xs.map (Value.int .u8))) (hb : Below base w wr) (hz : wr.heap.size = w.heap.size) (ho : Only (some g) w wr) (hg : base ≤ g) :
    ∃ ys : List Int, ys.length = n ∧ (∀ j, j < k + 1 → ys.getD j 0 = (q + (j : Int)) % 256) ∧ (wr.setCell ⟨g, k, none⟩ (.int .u8 x)).ownsRow base e0 1 (.slice (some ⟨g, 0, none⟩) n cap) n (ys.map (Value.int .u8)) ∧
      Below base w (wr.setCell ⟨g, k, none⟩ (.int .u8 x)) ∧ (wr.setCell ⟨g, k, none⟩ (.int .u8 x)).heap.size = w.heap.size ∧ Only (some g) w (wr.setCell ⟨g, k, none⟩ (.int .u8 x)) := by
  refine ⟨xs.set k x, by simp [hl], fun j hj => ?_, ?_, hb.setCell hg _, by simp [World.setCell, hz], ho.trans (Only.setCell ⟨g, k, none⟩ _)⟩
  · by_cases e : j = k
    · subst e
      simp [List.getD, hl, hk, hx]
    · have := hm j (by omega)
      simp only [List.getD, List.getElem?_set] at this ⊢
      rw [if_neg (by omega)]
      exact this
  · have := (hown.stored k (.int .u8 x)).1
    rwa [← List.map_set] at this

set_option maxHeartbeats 400000 in
theorem mark_core {e0 : Nat} (q : Int) (n : Nat) (base g cap : Nat) (xs : List Int) (w : World) (hn : n ≤ 140737488355328) (hq0 : 0 ≤ q) (hq1 : q ≤ 140737488355328) (hg : base ≤ g) (hl0 : xs.length = n)
    (hown0 : w.ownsRow base e0 1 (.slice (some ⟨g, 0, none⟩) n cap) n (xs.map (Value.int .u8))) :
    Calls Try.prog 44 #[.slice (some ⟨g, 0, none⟩) n cap, .int .i64 q] w fun e w' => e = .returned (.int .i64 (q + n)) ∧
      (∃ ys : List Int, ys.length = n ∧ (∀ j, j < n → ys.getD j 0 = (q + (j : Int)) % 256) ∧ w'.ownsRow base e0 1 (.slice (some ⟨g, 0, none⟩) n cap) n (ys.map (Value.int .u8))) ∧ Below base w w' ∧ w'.heap.size = w.heap.size ∧ Only (some g) w w' := by
  go_enter Try.func44, Try.ntmps44
  go_wp2
  go_loopw [1, 5] (fun s i wr => ∃ k : Nat, k ≤ n ∧ i = .int .i64 k ∧ s = .int .i64 (q + k) ∧ ∃ zs : List Int, zs.length = n ∧ (∀ j, j < k → zs.getD j 0 = (q + (j : Int)) % 256) ∧
      wr.ownsRow base e0 1 (.slice (some ⟨g, 0, none⟩) n cap) n (zs.map (Value.int .u8)) ∧ Below base w wr ∧ wr.heap.size = w.heap.size ∧ Only (some g) w wr) (fun _ i _ => n - (intOf i).toNat)
  case atStart => exact ⟨0, Nat.zero_le _, rfl, by simp, xs, hl0, fun j h => by omega, hown0, Below.refl _ _, rfl, Only.refl _ _⟩
  case round =>
    obtain ⟨k, hk, rfl, rfl, zs, hl, hm, hown, hb, hz, ho⟩ := hrel
    by_cases hlt : k < n
    · have R := mark_step (x := (q + (k : Int)) % 256) rfl hl hlt hm hown hb hz ho hg
      have f1 := hown.frozenAt k
      have c1 : ∃ u, wr.cell? ⟨g, k, none⟩ = some u := by
        have := hown.cellAt k (by omega)
        rw [this]
        exact ⟨_, by rw [List.getElem?_map, List.getElem?_eq_getElem (by omega)]; rfl⟩
      obtain ⟨u, c1⟩ := c1
      clear hl hm hown hb hz ho hown0 hl0
      obtain ⟨ys, R⟩ := R
      have HR : Hid _ := R
      clear R
      go_wp2
      go_roundw
      case rel =>
        obtain ⟨r1, r2, r3, r4, r5, r6⟩ := HR.out
        exact ⟨k + 1, by omega, by go_num, by go_num, ys, r1, r2, r3, r4, r5, r6⟩
      case measure => simp [intOf]; omega
    · have HR : Hid _ := And.intro hl (And.intro hm (And.intro hown (And.intro hb (And.intro hz ho))))
      clear hl hm hown hb hz ho hown0 hl0
      go_wp2
      go_ret
      obtain rfl : k = n := by omega
      obtain ⟨r1, r2, r3, r4, r5, r6⟩ := HR.out
      exact ⟨rfl, ⟨zs, r1, r2, r3⟩, r4, r5, r6⟩

theorem markBytes {e0 : Nat} (q : Int) (n base : Nat) (v : Value) (xs : List Int) (w : World) (hn : n ≤ 140737488355328) (hq0 : 0 ≤ q) (hq1 : q ≤ 140737488355328)
    (hown : w.ownsRow base e0 1 v n (xs.map (Value.int .u8))) :
    Calls Try.prog 44 #[v, .int .i64 q] w fun e w' => e = .returned (.int .i64 (q + n)) ∧ w'.ownsRow base e0 1 v n ((marks q n).map (Value.int .u8)) ∧ Below base w w' ∧ w'.heap.size = w.heap.size ∧ Only v.ownBlock w w' := by
  have hl : xs.length = n := by simpa using hown.1
  rcases hown.2 with ⟨rfl, h0⟩ | ⟨g, cap, cur, rfl, hg, hh, r⟩
  · subst h0
    obtain rfl : xs = [] := List.eq_nil_of_length_eq_zero hl
    refine (mark_nil q _ w (row_of_owns hown)).mono ?_
    rintro e w' ⟨rfl, rfl⟩
    exact ⟨by simp, hown, Below.refl _ _, rfl, Only.refl _ _⟩
  · refine (mark_core q n base g cap xs w hn hq0 hq1 hg hl hown).mono ?_
    rintro e w' ⟨rfl, ⟨ys, hy, hm, ho⟩, hb, hz, hon⟩
    have : ys = marks q n := by
      apply List.ext_getElem (by rw [hy, marks_length])
      intro i h1 h2
      have e1 := hm i (by omega)
      have e2 := marks_at q n i (by omega)
      simp only [List.getD, List.getElem?_eq_getElem h1, List.getElem?_eq_getElem h2, Option.getD_some] at e1 e2
      rw [e1, e2]
    subst this
    exact ⟨rfl, ho, hb, hz, hon⟩
end Go.Proofs.Ytcoakpmfappnlaa
