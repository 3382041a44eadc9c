import Derived.Test.YtgifbpongpbjaaaDoorStJ
namespace Go.Proofs.YtgifbpongpbjaaaDoor
open Go.RowKit
set_option linter.unusedVariables false

theorem mt5 (st : Nat) (hs : st < 6) : mtV 0 st 5 = decide (st = 4) := by
  have : st = 0 ∨ st = 1 ∨ st = 2 ∨ st = 3 ∨ st = 4 ∨ st = 5 := by omega
  rcases this with rfl | rfl | rfl | rfl | rfl | rfl <;> rfl
theorem mt3 (st : Nat) (hs : st < 6) : mtV 0 st 3 = decide (st = 2) := by
  have : st = 0 ∨ st = 1 ∨ st = 2 ∨ st = 3 ∨ st = 4 ∨ st = 5 := by omega
  rcases this with rfl | rfl | rfl | rfl | rfl | rfl <;> rfl
theorem read_bad (g : Nat) (n : Int) (w : World) (h : n < 1) :
    Calls Tryd.prog 13 #[.pointer (some ⟨g, 0, none⟩), .int .i64 n] w fun e w' => e = .returned (.tuple #[.slice none 0 0, .int .i64 1]) ∧ w' = w := by
  go_enter Tryd.func13, Tryd.ntmps13
  go_wp2
  go_ret2
  exact ⟨rfl, rfl⟩
set_option maxRecDepth 20000 in
theorem read_reset (g c win : Nat) (first came gr fin told n : Int) (w : World) (h : 1 ≤ n) (ht : TabF w) (h0 : 0 < w.heap.size) (hb : rcB w g c win 4 first came gr fin told) :
    Calls Tryd.prog 13 #[.pointer (some ⟨g, 0, none⟩), .int .i64 n] w fun e w' => e = .returned (.tuple #[.slice none 0 0, .int .i64 23]) ∧ rcB w' g c win 5 first came gr fin told ∧ Chg (· = g) w w' := by
  have C := turnR g c win 4 5 first came gr fin told (by decide) (by decide) (by decide) w ht h0 hb
  rw [mt5 4 (by decide)] at C
  clear hb ht h0
  go_enter Tryd.func13, Tryd.ntmps13
  go_wp2_with fail
  go_at_call 17
  refine C.mono ?_
  rintro e w1 ⟨rfl, rb, ch⟩
  have H1 : Hid _ := And.intro rb ch
  clear rb ch C
  go_wp2
  go_ret2
  exact ⟨rfl, H1.out.1, H1.out.2⟩
set_option maxRecDepth 20000 in
theorem read_cut (g c win : Nat) (first came gr fin told n : Int) (w : World) (h : 1 ≤ n) (ht : TabF w) (h0 : 0 < w.heap.size) (hb : rcB w g c win 5 first came gr fin told) :
    Calls Tryd.prog 13 #[.pointer (some ⟨g, 0, none⟩), .int .i64 n] w fun e w' => e = .returned (.tuple #[.slice none 0 0, .int .i64 23]) ∧ rcB w' g c win 5 first came gr fin told ∧ Chg (· = g) w w' := by
  have C := turnR g c win 5 5 first came gr fin told (by decide) (by decide) (by decide) w ht h0 hb
  rw [mt5 5 (by decide)] at C
  clear hb ht h0
  go_enter Tryd.func13, Tryd.ntmps13
  go_wp2_with fail
  go_at_call 17
  refine C.mono ?_
  rintro e w1 ⟨rfl, rb, ch⟩
  have rb' : rcB w1 g c win 5 first came gr fin told := rb
  have d1 : w1.cell? ⟨g, 1, none⟩ = some (.int .i64 5) := (bk_cell rb' 1).trans rfl
  have H1 : Hid _ := And.intro rb' ch
  clear rb rb' ch C
  go_wp2
  go_ret2
  exact ⟨rfl, H1.out.1, H1.out.2⟩
end Go.Proofs.YtgifbpongpbjaaaDoor
