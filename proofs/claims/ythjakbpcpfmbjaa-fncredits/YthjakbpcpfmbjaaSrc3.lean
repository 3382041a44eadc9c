import Derived.Test.YthjakbpcpfmbjaaSrc2
namespace Go.Proofs.Ythjakbpcpfmbjaa
open Go.RowKit
set_option linter.unusedVariables false

theorem chanceC (g : Nat) (v : Value) (xs : List Int) (n : Int) (s : St) (w : World) (h : Drw w g v xs s) (hp : s.pos ≤ 1099511627000) (hn0 : 1 ≤ n) (hn1 : n ≤ 2147483648) :
    Calls Try.prog 15 #[.pointer (some ⟨g, 0, none⟩), .int .i64 n] w fun e w' => e = .returned (.bool (nextV xs n s == n - 1)) ∧ Drw w' g v xs (nextS xs n s) ∧ w.grownBy w' (some g) := by
  have N := nextC g v xs n s w h hp hn0 hn1
  generalize nextV xs n s = x at N
  clear h
  go_enter Try.func15, Try.ntmps15
  go_wp2_with (go_at_call 13; refine N.mono ?_; rintro e w1 ⟨rfl, hd1, hg1⟩)
  go_ret
  exact ⟨rfl, hd1, hg1⟩

def szV (xs : List Int) (m : Int) : Int := if 1 + (xs.length : Int) / 12 ≤ m then 1 + (xs.length : Int) / 12 else m
theorem sizeC (g : Nat) (v : Value) (xs : List Int) (m : Int) (s : St) (w : World) (h : Drw w g v xs s) (hm0 : 0 ≤ m) (hm1 : m ≤ 2147483648) :
    Calls Try.prog 14 #[.pointer (some ⟨g, 0, none⟩), .int .i64 m] w fun e w' => e = .returned (.int .i64 (szV xs m)) ∧ w' = w := by
  obtain ⟨ao, cap, hv⟩ := h.row.form
  have c0 := h.form.1
  have hl := h.len
  rw [hv] at c0
  clear h hv
  obtain ⟨n, en⟩ : ∃ n, n = xs.length := ⟨_, rfl⟩
  have e : szV xs m = if 1 + (n : Int) / 12 ≤ m then 1 + (n : Int) / 12 else m := by unfold szV; rw [en]
  rw [e]
  rw [← en] at c0 hl
  clear e en
  by_cases hc : 1 + (n : Int) / 12 ≤ m
  · rw [if_pos hc]
    go_enter Try.func14, Try.ntmps14
    go_wp2
    go_ret
    refine ⟨?_, rfl⟩
    first | rfl | (congr 1; congr 1; omega) | (simp; omega)
  · rw [if_neg hc]
    go_enter Try.func14, Try.ntmps14
    go_wp2
    go_ret
    refine ⟨?_, rfl⟩
    first | rfl | (congr 1; congr 1; omega) | (simp; omega)

def tab9 : List Int := [0, 63, 64, 16383, 16384, 1073741823, 1073741824, 4611686018427387903, 4611686018427387902]
def tab4 : List Int := [-1, 4611686018427387904, 9223372036854775807, -9223372036854775808]

/-- What was laid in a new block ahead of the source's step is there behind it. -/
theorem laid_cell {w w' : World} {g B i : Nat} {ts : List Int} {e : TypeId} (hg : (w.alloc (.cells (ts.map (Value.int .i64)).toArray e)).grownBy w' (some g)) (hgB : g < w.heap.size) (hB : B = w.heap.size) (hi : i < ts.length) :
    w'.cell? ⟨B, i, none⟩ = some (.int .i64 (ts.getD i 0)) := by
  subst hB
  have h1 : w'.heap[w.heap.size]? = some (.cells (ts.map (Value.int .i64)).toArray e (0, 0)) := by
    rw [hg.block w.heap.size (by simp) (fun h => by have := Option.some.inj h; omega)]
    exact (MapKept.heap_alloc w _).1
  rw [blk_cell h1]
  simp [List.getD, hi]

def numV (xs : List Int) (s : St) : Int :=
  if nextV xs 12 s = 0 then tab9.getD (nextV xs 9 (nextS xs 12 s)).toNat 0
  else if nextV xs 12 s = 1 then nextV xs 16777216 (nextS xs 12 s) * 65536 + nextV xs 65536 (nextS xs 16777216 (nextS xs 12 s))
  else if nextV xs 12 s = 2 then tab4.getD (nextV xs 4 (nextS xs 12 s)).toNat 0
  else if nextV xs 12 s = 3 ∨ nextV xs 12 s = 4 then nextV xs 20000 (nextS xs 12 s)
  else nextV xs 100 (nextS xs 12 s)
def numS (xs : List Int) (s : St) : St :=
  if nextV xs 12 s = 0 then nextS xs 9 (nextS xs 12 s)
  else if nextV xs 12 s = 1 then nextS xs 65536 (nextS xs 16777216 (nextS xs 12 s))
  else if nextV xs 12 s = 2 then nextS xs 4 (nextS xs 12 s)
  else if nextV xs 12 s = 3 ∨ nextV xs 12 s = 4 then nextS xs 20000 (nextS xs 12 s)
  else nextS xs 100 (nextS xs 12 s)
theorem numS_pos (xs : List Int) (s : St) : s.pos ≤ (numS xs s).pos ∧ (numS xs s).pos ≤ s.pos + 9 := by
  have h1 := nextS_pos xs 12 s
  have h2 := fun n => nextS_pos xs n (nextS xs 12 s)
  have h3 := nextS_pos xs 65536 (nextS xs 16777216 (nextS xs 12 s))
  unfold numS
  split
  · have := h2 9; omega
  · split
    · have := h2 16777216; omega
    · split
      · have := h2 4; omega
      · split
        · have := h2 20000; omega
        · have := h2 100; omega
theorem drw_lt {w : World} {g : Nat} {v : Value} {xs : List Int} {s : St} (h : Drw w g v xs s) : g < w.heap.size := (Array.getElem?_eq_some_iff.1 h.blk).1
theorem drw_alloc {w : World} {g : Nat} {v : Value} {xs : List Int} {s : St} (h : Drw w g v xs s) (o : Obj) : Drw (w.alloc o) g v xs s :=
  h.kept (World.grownBy_alloc w o none) (by simp) (by intros; simp)

set_option maxHeartbeats 1000000 in
theorem numberC (g : Nat) (v : Value) (xs : List Int) (s : St) (w : World) (h : Drw w g v xs s) (hp : s.pos ≤ 1099511626000) :
    Calls Try.prog 16 #[.pointer (some ⟨g, 0, none⟩)] w fun e w' => e = .returned (.int .i64 (numV xs s)) ∧ Drw w' g v xs (numS xs s) ∧ w.grownBy w' (some g) := by
  have N := nextC g v xs 12 s w h (by omega) (by decide) (by decide)
  have hb := nextV_bd xs 12 s (by decide)
  have hps := nextS_pos xs 12 s
  have NN : ∀ (n : Int) (w : World), 1 ≤ n → n ≤ 2147483648 → Drw w g v xs (nextS xs 12 s) → Calls Try.prog 13 #[.pointer (some ⟨g, 0, none⟩), .int .i64 n] w fun e w' => e = .returned (.int .i64 (nextV xs n (nextS xs 12 s))) ∧ Drw w' g v xs (nextS xs n (nextS xs 12 s)) ∧ w.grownBy w' (some g) :=
    fun n w h0 h1 hd => nextC g v xs n _ w hd (by omega) h0 h1
  have hc : nextV xs 12 s = 0 ∨ nextV xs 12 s = 1 ∨ nextV xs 12 s = 2 ∨ nextV xs 12 s = 3 ∨ nextV xs 12 s = 4 ∨ nextV xs 12 s = 5 ∨ nextV xs 12 s = 6 ∨ nextV xs 12 s = 7 ∨ nextV xs 12 s = 8 ∨ nextV xs 12 s = 9 ∨ nextV xs 12 s = 10 ∨ nextV xs 12 s = 11 := by omega
  rcases hc with h0 | h0 | h0 | h0 | h0 | h0 | h0 | h0 | h0 | h0 | h0 | h0
  · have e1 : numV xs s = tab9.getD (nextV xs 9 (nextS xs 12 s)).toNat 0 := by unfold numV; rw [if_pos h0]
    have e2 : numS xs s = nextS xs 9 (nextS xs 12 s) := by unfold numS; rw [if_pos h0]
    rw [e1, e2]
    rw [h0] at N
    have M := fun w hd => NN 9 w (by decide) (by decide) hd
    have mb := nextV_bd xs 9 (nextS xs 12 s) (by decide)
    obtain ⟨i, ei⟩ := Int.eq_ofNat_of_zero_le mb.1
    rw [ei] at M mb ⊢
    rw [Int.toNat_natCast]
    obtain ⟨y, ey⟩ : ∃ y, y = tab9.getD i 0 := ⟨_, rfl⟩
    rw [← ey]
    have EY : Hid (y = tab9.getD i 0) := ey
    clear ey
    clear NN e1 e2 h0 hb hps ei h
    go_enter Try.func16, Try.ntmps16
    go_wp2_with fail
    go_at_call 13
    refine N.mono ?_
    rintro e w1 ⟨rfl, hd1, hg1⟩
    go_wp2_with fail
    go_at_call 13
    refine (M _ (drw_alloc hd1 _)).mono ?_
    rintro e w2 ⟨rfl, hd2, hg2⟩
    have hg2' := hg2
    have cc : w2.cell? ⟨w1.heap.size, i, none⟩ = some (.int .i64 y) := by rw [EY.out]; exact laid_cell (ts := tab9) hg2 (drw_lt hd1) rfl (by show i < 9; omega)
    have HG : Hid _ := And.intro hd2 (grown_trans hg1 (grown_trans (World.grownBy_alloc w1 _ (some g)) hg2'))
    clear hg2 hg2' hd1 hg1 N M hd2
    go_wp2
    go_ret
    exact ⟨rfl, HG.out.1, HG.out.2⟩
  · have e1 : numV xs s = nextV xs 16777216 (nextS xs 12 s) * 65536 + nextV xs 65536 (nextS xs 16777216 (nextS xs 12 s)) := by unfold numV; rw [if_neg (by omega), if_pos h0]
    have e2 : numS xs s = nextS xs 65536 (nextS xs 16777216 (nextS xs 12 s)) := by unfold numS; rw [if_neg (by omega), if_pos h0]
    rw [e1, e2]
    rw [h0] at N
    have M := fun w hd => NN 16777216 w (by decide) (by decide) hd
    have K := fun w hd => nextC g v xs 65536 (nextS xs 16777216 (nextS xs 12 s)) w hd (by have := nextS_pos xs 16777216 (nextS xs 12 s); omega) (by decide) (by decide)
    have mb := nextV_bd xs 16777216 (nextS xs 12 s) (by decide)
    have kb := nextV_bd xs 65536 (nextS xs 16777216 (nextS xs 12 s)) (by decide)
    generalize nextV xs 16777216 (nextS xs 12 s) = y1 at M mb
    generalize nextV xs 65536 (nextS xs 16777216 (nextS xs 12 s)) = y2 at K kb
    clear NN e1 e2 h0 hb hps h
    go_enter Try.func16, Try.ntmps16
    go_wp2_with fail
    go_at_call 13
    refine N.mono ?_
    rintro e w1 ⟨rfl, hd1, hg1⟩
    go_wp2_with fail
    go_at_call 13
    refine (M _ hd1).mono ?_
    rintro e w2 ⟨rfl, hd2, hg2⟩
    go_wp2_with fail
    go_at_call 13
    refine (K _ hd2).mono ?_
    rintro e w3 ⟨rfl, hd3, hg3⟩
    go_wp2
    go_ret
    exact ⟨rfl, hd3, grown_trans (grown_trans hg1 hg2) hg3⟩
  · have e1 : numV xs s = tab4.getD (nextV xs 4 (nextS xs 12 s)).toNat 0 := by unfold numV; rw [if_neg (by omega), if_neg (by omega), if_pos h0]
    have e2 : numS xs s = nextS xs 4 (nextS xs 12 s) := by unfold numS; rw [if_neg (by omega), if_neg (by omega), if_pos h0]
    rw [e1, e2]
    rw [h0] at N
    have M := fun w hd => NN 4 w (by decide) (by decide) hd
    have mb := nextV_bd xs 4 (nextS xs 12 s) (by decide)
    obtain ⟨i, ei⟩ := Int.eq_ofNat_of_zero_le mb.1
    rw [ei] at M mb ⊢
    rw [Int.toNat_natCast]
    obtain ⟨y, ey⟩ : ∃ y, y = tab4.getD i 0 := ⟨_, rfl⟩
    rw [← ey]
    have EY : Hid (y = tab4.getD i 0) := ey
    clear ey
    clear NN e1 e2 h0 hb hps ei h
    go_enter Try.func16, Try.ntmps16
    go_wp2_with fail
    go_at_call 13
    refine N.mono ?_
    rintro e w1 ⟨rfl, hd1, hg1⟩
    go_wp2_with fail
    go_at_call 13
    refine (M _ (drw_alloc hd1 _)).mono ?_
    rintro e w2 ⟨rfl, hd2, hg2⟩
    have hg2' := hg2
    have cc : w2.cell? ⟨w1.heap.size, i, none⟩ = some (.int .i64 y) := by rw [EY.out]; exact laid_cell (ts := tab4) hg2 (drw_lt hd1) rfl (by show i < 4; omega)
    have HG : Hid _ := And.intro hd2 (grown_trans hg1 (grown_trans (World.grownBy_alloc w1 _ (some g)) hg2'))
    clear hg2 hg2' hd1 hg1 N M hd2
    go_wp2
    go_ret
    exact ⟨rfl, HG.out.1, HG.out.2⟩
  · have e1 : numV xs s = nextV xs 20000 (nextS xs 12 s) := by unfold numV; rw [if_neg (by omega), if_neg (by omega), if_neg (by omega), if_pos (by omega)]
    have e2 : numS xs s = nextS xs 20000 (nextS xs 12 s) := by unfold numS; rw [if_neg (by omega), if_neg (by omega), if_neg (by omega), if_pos (by omega)]
    rw [e1, e2]
    rw [h0] at N
    have M := fun w hd => NN 20000 w (by decide) (by decide) hd
    generalize nextV xs 20000 (nextS xs 12 s) = y1 at M
    clear NN e1 e2 h0 hb hps h
    go_enter Try.func16, Try.ntmps16
    go_wp2_with fail
    go_at_call 13
    refine N.mono ?_
    rintro e w1 ⟨rfl, hd1, hg1⟩
    go_wp2_with fail
    go_at_call 13
    refine (M _ hd1).mono ?_
    rintro e w2 ⟨rfl, hd2, hg2⟩
    go_wp2
    go_ret
    exact ⟨rfl, hd2, grown_trans hg1 hg2⟩
  · have e1 : numV xs s = nextV xs 20000 (nextS xs 12 s) := by unfold numV; rw [if_neg (by omega), if_neg (by omega), if_neg (by omega), if_pos (by omega)]
    have e2 : numS xs s = nextS xs 20000 (nextS xs 12 s) := by unfold numS; rw [if_neg (by omega), if_neg (by omega), if_neg (by omega), if_pos (by omega)]
    rw [e1, e2]
    rw [h0] at N
    have M := fun w hd => NN 20000 w (by decide) (by decide) hd
    generalize nextV xs 20000 (nextS xs 12 s) = y1 at M
    clear NN e1 e2 h0 hb hps h
    go_enter Try.func16, Try.ntmps16
    go_wp2_with fail
    go_at_call 13
    refine N.mono ?_
    rintro e w1 ⟨rfl, hd1, hg1⟩
    go_wp2_with fail
    go_at_call 13
    refine (M _ hd1).mono ?_
    rintro e w2 ⟨rfl, hd2, hg2⟩
    go_wp2
    go_ret
    exact ⟨rfl, hd2, grown_trans hg1 hg2⟩
  · have e1 : numV xs s = nextV xs 100 (nextS xs 12 s) := by unfold numV; rw [if_neg (by omega), if_neg (by omega), if_neg (by omega), if_neg (by omega)]
    have e2 : numS xs s = nextS xs 100 (nextS xs 12 s) := by unfold numS; rw [if_neg (by omega), if_neg (by omega), if_neg (by omega), if_neg (by omega)]
    rw [e1, e2]
    rw [h0] at N
    have M := fun w hd => NN 100 w (by decide) (by decide) hd
    generalize nextV xs 100 (nextS xs 12 s) = y1 at M
    clear NN e1 e2 h0 hb hps h
    go_enter Try.func16, Try.ntmps16
    go_wp2_with fail
    go_at_call 13
    refine N.mono ?_
    rintro e w1 ⟨rfl, hd1, hg1⟩
    go_wp2_with fail
    go_at_call 13
    refine (M _ hd1).mono ?_
    rintro e w2 ⟨rfl, hd2, hg2⟩
    go_wp2
    go_ret
    exact ⟨rfl, hd2, grown_trans hg1 hg2⟩
  · have e1 : numV xs s = nextV xs 100 (nextS xs 12 s) := by unfold numV; rw [if_neg (by omega), if_neg (by omega), if_neg (by omega), if_neg (by omega)]
    have e2 : numS xs s = nextS xs 100 (nextS xs 12 s) := by unfold numS; rw [if_neg (by omega), if_neg (by omega), if_neg (by omega), if_neg (by omega)]
    rw [e1, e2]
    rw [h0] at N
    have M := fun w hd => NN 100 w (by decide) (by decide) hd
    generalize nextV xs 100 (nextS xs 12 s) = y1 at M
    clear NN e1 e2 h0 hb hps h
    go_enter Try.func16, Try.ntmps16
    go_wp2_with fail
    go_at_call 13
    refine N.mono ?_
    rintro e w1 ⟨rfl, hd1, hg1⟩
    go_wp2_with fail
    go_at_call 13
    refine (M _ hd1).mono ?_
    rintro e w2 ⟨rfl, hd2, hg2⟩
    go_wp2
    go_ret
    exact ⟨rfl, hd2, grown_trans hg1 hg2⟩
  · have e1 : numV xs s = nextV xs 100 (nextS xs 12 s) := by unfold numV; rw [if_neg (by omega), if_neg (by omega), if_neg (by omega), if_neg (by omega)]
    have e2 : numS xs s = nextS xs 100 (nextS xs 12 s) := by unfold numS; rw [if_neg (by omega), if_neg (by omega), if_neg (by omega), if_neg (by omega)]
    rw [e1, e2]
    rw [h0] at N
    have M := fun w hd => NN 100 w (by decide) (by decide) hd
    generalize nextV xs 100 (nextS xs 12 s) = y1 at M
    clear NN e1 e2 h0 hb hps h
    go_enter Try.func16, Try.ntmps16
    go_wp2_with fail
    go_at_call 13
    refine N.mono ?_
    rintro e w1 ⟨rfl, hd1, hg1⟩
    go_wp2_with fail
    go_at_call 13
    refine (M _ hd1).mono ?_
    rintro e w2 ⟨rfl, hd2, hg2⟩
    go_wp2
    go_ret
    exact ⟨rfl, hd2, grown_trans hg1 hg2⟩
  · have e1 : numV xs s = nextV xs 100 (nextS xs 12 s) := by unfold numV; rw [if_neg (by omega), if_neg (by omega), if_neg (by omega), if_neg (by omega)]
    have e2 : numS xs s = nextS xs 100 (nextS xs 12 s) := by unfold numS; rw [if_neg (by omega), if_neg (by omega), if_neg (by omega), if_neg (by omega)]
    rw [e1, e2]
    rw [h0] at N
    have M := fun w hd => NN 100 w (by decide) (by decide) hd
    generalize nextV xs 100 (nextS xs 12 s) = y1 at M
    clear NN e1 e2 h0 hb hps h
    go_enter Try.func16, Try.ntmps16
    go_wp2_with fail
    go_at_call 13
    refine N.mono ?_
    rintro e w1 ⟨rfl, hd1, hg1⟩
    go_wp2_with fail
    go_at_call 13
    refine (M _ hd1).mono ?_
    rintro e w2 ⟨rfl, hd2, hg2⟩
    go_wp2
    go_ret
    exact ⟨rfl, hd2, grown_trans hg1 hg2⟩
  · have e1 : numV xs s = nextV xs 100 (nextS xs 12 s) := by unfold numV; rw [if_neg (by omega), if_neg (by omega), if_neg (by omega), if_neg (by omega)]
    have e2 : numS xs s = nextS xs 100 (nextS xs 12 s) := by unfold numS; rw [if_neg (by omega), if_neg (by omega), if_neg (by omega), if_neg (by omega)]
    rw [e1, e2]
    rw [h0] at N
    have M := fun w hd => NN 100 w (by decide) (by decide) hd
    generalize nextV xs 100 (nextS xs 12 s) = y1 at M
    clear NN e1 e2 h0 hb hps h
    go_enter Try.func16, Try.ntmps16
    go_wp2_with fail
    go_at_call 13
    refine N.mono ?_
    rintro e w1 ⟨rfl, hd1, hg1⟩
    go_wp2_with fail
    go_at_call 13
    refine (M _ hd1).mono ?_
    rintro e w2 ⟨rfl, hd2, hg2⟩
    go_wp2
    go_ret
    exact ⟨rfl, hd2, grown_trans hg1 hg2⟩
  · have e1 : numV xs s = nextV xs 100 (nextS xs 12 s) := by unfold numV; rw [if_neg (by omega), if_neg (by omega), if_neg (by omega), if_neg (by omega)]
    have e2 : numS xs s = nextS xs 100 (nextS xs 12 s) := by unfold numS; rw [if_neg (by omega), if_neg (by omega), if_neg (by omega), if_neg (by omega)]
    rw [e1, e2]
    rw [h0] at N
    have M := fun w hd => NN 100 w (by decide) (by decide) hd
    generalize nextV xs 100 (nextS xs 12 s) = y1 at M
    clear NN e1 e2 h0 hb hps h
    go_enter Try.func16, Try.ntmps16
    go_wp2_with fail
    go_at_call 13
    refine N.mono ?_
    rintro e w1 ⟨rfl, hd1, hg1⟩
    go_wp2_with fail
    go_at_call 13
    refine (M _ hd1).mono ?_
    rintro e w2 ⟨rfl, hd2, hg2⟩
    go_wp2
    go_ret
    exact ⟨rfl, hd2, grown_trans hg1 hg2⟩
  · have e1 : numV xs s = nextV xs 100 (nextS xs 12 s) := by unfold numV; rw [if_neg (by omega), if_neg (by omega), if_neg (by omega), if_neg (by omega)]
    have e2 : numS xs s = nextS xs 100 (nextS xs 12 s) := by unfold numS; rw [if_neg (by omega), if_neg (by omega), if_neg (by omega), if_neg (by omega)]
    rw [e1, e2]
    rw [h0] at N
    have M := fun w hd => NN 100 w (by decide) (by decide) hd
    generalize nextV xs 100 (nextS xs 12 s) = y1 at M
    clear NN e1 e2 h0 hb hps h
    go_enter Try.func16, Try.ntmps16
    go_wp2_with fail
    go_at_call 13
    refine N.mono ?_
    rintro e w1 ⟨rfl, hd1, hg1⟩
    go_wp2_with fail
    go_at_call 13
    refine (M _ hd1).mono ?_
    rintro e w2 ⟨rfl, hd2, hg2⟩
    go_wp2
    go_ret
    exact ⟨rfl, hd2, grown_trans hg1 hg2⟩
end Go.Proofs.Ythjakbpcpfmbjaa
