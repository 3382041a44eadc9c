import Derived.Test.YtgifbpongpbjaaaDoorStP
namespace Go.Proofs.YtgifbpongpbjaaaDoor
open Go.RowKit
set_option linter.unusedVariables false

theorem Chg.set' {S : Nat → Prop} {w w' : World} (h : Chg S w w') (g i : Nat) (u : Value) (hg : S g) : Chg S w (w'.setCell ⟨g, i, none⟩ u) :=
  ⟨h.os, h.tape, h.output, by have := h.size; simpa [World.setCell] using this, fun k hk hs => (bk_other (k := k) (g := g) (fun e => hs (by rw [e]; exact hg)) i u).trans (h.block k hk hs)⟩
set_option maxRecDepth 20000 in
/-- The state may turn. -/
theorem turnI (g p s x : Nat) (cs : Array Value) (t : TypeId) (hp : p < 2) (hs : s < 6) (h1 : 1 ≤ x) (h5 : x ≤ 5) (w : World) (ht : TabF w) (h0 : 0 < w.heap.size)
    (hb : w.heap[g]? = some (.cells cs t (0, 0))) (c0 : cs[0]? = some (.int .i64 (p : Int))) (c1 : cs[1]? = some (.int .i64 (s : Int))) :
    Calls Tryd.prog 17 #[.pointer (some ⟨g, 0, none⟩), .int .i64 (x : Int)] w fun e w' => e = .returned (.bool (mtV p s x)) ∧
      w'.heap[g]? = some (.cells (if mtV p s x then cs.setIfInBounds 1 (.int .i64 (x : Int)) else cs) t (0, 0)) ∧ Chg (· = g) w w' := by
  have d0 : w.cell? ⟨g, 0, none⟩ = some (.int .i64 (p : Int)) := (bk_cell hb 0).trans c0
  have d1 : w.cell? ⟨g, 1, none⟩ = some (.int .i64 (s : Int)) := (bk_cell hb 1).trans c1
  have C := mayTurnI p s x hp hs h1 h5 w ht h0
  have hgl : g < w.heap.size := (Array.getElem?_eq_some_iff.1 hb).1
  have HB : Hid _ := And.intro hb (And.intro hgl c1)
  generalize mtV p s x = b at C ⊢
  clear hb c0 c1 ht h0
  go_enter Tryd.func17, Tryd.ntmps17
  go_wp2_with fail
  go_at_call 21
  refine C.mono ?_
  rintro e w1 ⟨rfl, b1⟩
  have hb1 := (b1.block g HB.out.2.1).trans HB.out.1
  have e1 : w1.cell? ⟨g, 1, none⟩ = some (.int .i64 (s : Int)) := (bk_cell hb1 1).trans HB.out.2.2
  have f1 := bk_free hb1 1
  have H1 : Hid _ := And.intro hb1 (And.intro (Chg.of_below (S := (· = g)) b1) True.intro)
  clear b1 hb1 C
  cases b
  · go_wp2
    go_ret
    exact ⟨rfl, H1.out.1, H1.out.2.1⟩
  · go_wp2
    go_ret
    exact ⟨rfl, bk_set H1.out.1 1 _, H1.out.2.1.set' g 1 _ rfl⟩

/-- The receiving part, as it lies in memory. -/
def rcB (w : World) (g c win : Nat) (st : Nat) (first came gr fin told : Int) : Prop :=
  w.heap[g]? = some (.cells #[.int .i64 0, .int .i64 (st : Int), .slice (some ⟨c, 0, none⟩) win win, .int .i64 first, .int .i64 came, .int .i64 gr, .int .i64 fin, .int .i64 told] 45 (0, 0))
set_option maxRecDepth 20000 in
theorem takingI (g c win st : Nat) (first came gr fin told : Int) (w : World) (hs : st < 6) (ht : TabF w) (h0 : 0 < w.heap.size) (hb : rcB w g c win st first came gr fin told) :
    Calls Tryd.prog 15 #[.pointer (some ⟨g, 0, none⟩)] w fun e w' => e = .returned (.bool (decide (st < 2))) ∧ Below w.heap.size w w' := by
  have d0 : w.cell? ⟨g, 0, none⟩ = some (.int .i64 0) := (bk_cell hb 0).trans rfl
  have d1 : w.cell? ⟨g, 1, none⟩ = some (.int .i64 (st : Int)) := (bk_cell hb 1).trans rfl
  have C := mayTurnI 0 st 4 (by decide) hs (by decide) (by decide) w ht h0
  have e : mtV 0 st 4 = decide (st < 2) := by
    have : st = 0 ∨ st = 1 ∨ st = 2 ∨ st = 3 ∨ st = 4 ∨ st = 5 := by omega
    rcases this with rfl | rfl | rfl | rfl | rfl | rfl <;> rfl
  rw [e] at C
  generalize decide (st < 2) = b at C ⊢
  clear hb ht h0
  go_enter Tryd.func15, Tryd.ntmps15
  go_wp2_with fail
  go_at_call 21
  refine C.mono ?_
  rintro e w1 ⟨rfl, b1⟩
  go_wp2
  go_ret
  exact ⟨rfl, b1⟩
set_option maxRecDepth 20000 in
theorem mayEndI (g c win st : Nat) (first came gr fin told n : Int) (w : World) (hb : rcB w g c win st first came gr fin told) :
    Calls Tryd.prog 14 #[.pointer (some ⟨g, 0, none⟩), .int .i64 n] w fun e w' => e = .returned (.bool (decide (gr ≤ n ∧ (fin = -1 ∨ n = fin)))) ∧ w' = w := by
  have d5 : w.cell? ⟨g, 5, none⟩ = some (.int .i64 gr) := (bk_cell hb 5).trans rfl
  have d6 : w.cell? ⟨g, 6, none⟩ = some (.int .i64 fin) := (bk_cell hb 6).trans rfl
  clear hb
  by_cases a1 : gr ≤ n
  · by_cases a2 : fin = -1
    · rw [decide_eq_true ⟨a1, Or.inl a2⟩]
      subst a2
      go_enter Tryd.func14, Tryd.ntmps14
      go_wp2
      go_ret
      exact ⟨rfl, rfl⟩
    · have b2 : (fin == -1) = false := by simpa using a2
      by_cases a3 : n = fin
      · rw [decide_eq_true ⟨a1, Or.inr a3⟩]
        have b3 : (n == fin) = true := by simpa using a3
        go_enter Tryd.func14, Tryd.ntmps14
        go_wp2
        go_ret
        exact ⟨rfl, rfl⟩
      · rw [decide_eq_false (by rintro ⟨_, h | h⟩ <;> contradiction)]
        have b3 : (n == fin) = false := by simpa using a3
        go_enter Tryd.func14, Tryd.ntmps14
        go_wp2
        go_ret
        exact ⟨rfl, rfl⟩
  · rw [decide_eq_false (fun h => a1 h.1)]
    go_enter Tryd.func14, Tryd.ntmps14
    go_wp2
    go_ret
    exact ⟨rfl, rfl⟩
end Go.Proofs.YtgifbpongpbjaaaDoor
