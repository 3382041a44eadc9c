import Derived.Test.YtjikdecfampbiaaICopy
import Derived.Laws.StructEq
namespace Go.Proofs.Ytjikdecfampbiaa
open Go.RowKit
set_option linter.unusedVariables false
set_option linter.unusedSimpArgs false

theorem eqEl (x y : Int) (d : Nat) (w : World) : (Op.equalIn (d + 1) 5 (.int .u8 x) (.int .u8 y)).run Try.prog w = .ok (x == y) w := run_equalIn_int (w := w) d 5 .u8 .u8 x y Try.underlying5
theorem eq8 (x0 x1 x2 x3 x4 x5 x6 x7 y0 y1 y2 y3 y4 y5 y6 y7 : Int) (d : Nat) (w : World) :
    (Op.equalIn (d + 1 + 1) 78 (.agg #[.int .u8 x0, .int .u8 x1, .int .u8 x2, .int .u8 x3, .int .u8 x4, .int .u8 x5, .int .u8 x6, .int .u8 x7]) (.agg #[.int .u8 y0, .int .u8 y1, .int .u8 y2, .int .u8 y3, .int .u8 y4, .int .u8 y5, .int .u8 y6, .int .u8 y7])).run Try.prog w = .ok (decide ([x0, x1, x2, x3, x4, x5, x6, x7] = [y0, y1, y2, y3, y4, y5, y6, y7])) w := by
  obtain ⟨i0, hi, hz0, hz1, hz2⟩ := info_parts infoU8
  have hs : ∀ w, (sizeOf 5).run Try.prog w = .ok 1 w := by
    intro w
    simp [sizeOf, typeInfo, hi, hz1]
  have hp : ∀ (a : Array Value) (i : Nat) (v : Value) (w : World), a[i]? = some v → (part 5 a i).run Try.prog w = .ok v w := by
    intro a i v w h
    simp [part, h]
  have px0 : ∀ w, (part 5 #[.int .u8 x0, .int .u8 x1, .int .u8 x2, .int .u8 x3, .int .u8 x4, .int .u8 x5, .int .u8 x6, .int .u8 x7] 0).run Try.prog w = .ok (.int .u8 x0) w := fun w => hp _ _ _ w rfl
  have py0 : ∀ w, (part 5 #[.int .u8 y0, .int .u8 y1, .int .u8 y2, .int .u8 y3, .int .u8 y4, .int .u8 y5, .int .u8 y6, .int .u8 y7] 0).run Try.prog w = .ok (.int .u8 y0) w := fun w => hp _ _ _ w rfl
  have px1 : ∀ w, (part 5 #[.int .u8 x0, .int .u8 x1, .int .u8 x2, .int .u8 x3, .int .u8 x4, .int .u8 x5, .int .u8 x6, .int .u8 x7] 1).run Try.prog w = .ok (.int .u8 x1) w := fun w => hp _ _ _ w rfl
  have py1 : ∀ w, (part 5 #[.int .u8 y0, .int .u8 y1, .int .u8 y2, .int .u8 y3, .int .u8 y4, .int .u8 y5, .int .u8 y6, .int .u8 y7] 1).run Try.prog w = .ok (.int .u8 y1) w := fun w => hp _ _ _ w rfl
  have px2 : ∀ w, (part 5 #[.int .u8 x0, .int .u8 x1, .int .u8 x2, .int .u8 x3, .int .u8 x4, .int .u8 x5, .int .u8 x6, .int .u8 x7] 2).run Try.prog w = .ok (.int .u8 x2) w := fun w => hp _ _ _ w rfl
  have py2 : ∀ w, (part 5 #[.int .u8 y0, .int .u8 y1, .int .u8 y2, .int .u8 y3, .int .u8 y4, .int .u8 y5, .int .u8 y6, .int .u8 y7] 2).run Try.prog w = .ok (.int .u8 y2) w := fun w => hp _ _ _ w rfl
  have px3 : ∀ w, (part 5 #[.int .u8 x0, .int .u8 x1, .int .u8 x2, .int .u8 x3, .int .u8 x4, .int .u8 x5, .int .u8 x6, .int .u8 x7] 3).run Try.prog w = .ok (.int .u8 x3) w := fun w => hp _ _ _ w rfl
  have py3 : ∀ w, (part 5 #[.int .u8 y0, .int .u8 y1, .int .u8 y2, .int .u8 y3, .int .u8 y4, .int .u8 y5, .int .u8 y6, .int .u8 y7] 3).run Try.prog w = .ok (.int .u8 y3) w := fun w => hp _ _ _ w rfl
  have px4 : ∀ w, (part 5 #[.int .u8 x0, .int .u8 x1, .int .u8 x2, .int .u8 x3, .int .u8 x4, .int .u8 x5, .int .u8 x6, .int .u8 x7] 4).run Try.prog w = .ok (.int .u8 x4) w := fun w => hp _ _ _ w rfl
  have py4 : ∀ w, (part 5 #[.int .u8 y0, .int .u8 y1, .int .u8 y2, .int .u8 y3, .int .u8 y4, .int .u8 y5, .int .u8 y6, .int .u8 y7] 4).run Try.prog w = .ok (.int .u8 y4) w := fun w => hp _ _ _ w rfl
  have px5 : ∀ w, (part 5 #[.int .u8 x0, .int .u8 x1, .int .u8 x2, .int .u8 x3, .int .u8 x4, .int .u8 x5, .int .u8 x6, .int .u8 x7] 5).run Try.prog w = .ok (.int .u8 x5) w := fun w => hp _ _ _ w rfl
  have py5 : ∀ w, (part 5 #[.int .u8 y0, .int .u8 y1, .int .u8 y2, .int .u8 y3, .int .u8 y4, .int .u8 y5, .int .u8 y6, .int .u8 y7] 5).run Try.prog w = .ok (.int .u8 y5) w := fun w => hp _ _ _ w rfl
  have px6 : ∀ w, (part 5 #[.int .u8 x0, .int .u8 x1, .int .u8 x2, .int .u8 x3, .int .u8 x4, .int .u8 x5, .int .u8 x6, .int .u8 x7] 6).run Try.prog w = .ok (.int .u8 x6) w := fun w => hp _ _ _ w rfl
  have py6 : ∀ w, (part 5 #[.int .u8 y0, .int .u8 y1, .int .u8 y2, .int .u8 y3, .int .u8 y4, .int .u8 y5, .int .u8 y6, .int .u8 y7] 6).run Try.prog w = .ok (.int .u8 y6) w := fun w => hp _ _ _ w rfl
  have px7 : ∀ w, (part 5 #[.int .u8 x0, .int .u8 x1, .int .u8 x2, .int .u8 x3, .int .u8 x4, .int .u8 x5, .int .u8 x6, .int .u8 x7] 7).run Try.prog w = .ok (.int .u8 x7) w := fun w => hp _ _ _ w rfl
  have py7 : ∀ w, (part 5 #[.int .u8 y0, .int .u8 y1, .int .u8 y2, .int .u8 y3, .int .u8 y4, .int .u8 y5, .int .u8 y6, .int .u8 y7] 7).run Try.prog w = .ok (.int .u8 y7) w := fun w => hp _ _ _ w rfl
  rw [Op.equalIn]
  simp only [Sem.run_bind, run_underlying Try.underlying78, Result.andThen_ok, hs, Nat.mul_one]
  rw [Std.Legacy.Range.forIn_eq_forIn_range']
  simp only [Std.Legacy.Range.size, List.range'_succ, List.range'_zero, List.forIn_cons, List.forIn_nil]
  by_cases h0 : x0 = y0
  · subst h0
    by_cases h1 : x1 = y1
    · subst h1
      by_cases h2 : x2 = y2
      · subst h2
        by_cases h3 : x3 = y3
        · subst h3
          by_cases h4 : x4 = y4
          · subst h4
            by_cases h5 : x5 = y5
            · subst h5
              by_cases h6 : x6 = y6
              · subst h6
                by_cases h7 : x7 = y7
                · subst h7
                  simp [Sem.run_bind, px0, px1, px2, px3, px4, px5, px6, px7, eqEl]
                · simp [Sem.run_bind, px0, py0, px1, py1, px2, py2, px3, py3, px4, py4, px5, py5, px6, py6, px7, py7, eqEl, h7]
              · simp [Sem.run_bind, px0, py0, px1, py1, px2, py2, px3, py3, px4, py4, px5, py5, px6, py6, eqEl, h6]
            · simp [Sem.run_bind, px0, py0, px1, py1, px2, py2, px3, py3, px4, py4, px5, py5, eqEl, h5]
          · simp [Sem.run_bind, px0, py0, px1, py1, px2, py2, px3, py3, px4, py4, eqEl, h4]
        · simp [Sem.run_bind, px0, py0, px1, py1, px2, py2, px3, py3, eqEl, h3]
      · simp [Sem.run_bind, px0, py0, px1, py1, px2, py2, eqEl, h2]
    · simp [Sem.run_bind, px0, py0, px1, py1, eqEl, h1]
  · simp [Sem.run_bind, px0, py0, eqEl, h0]
end Go.Proofs.Ytjikdecfampbiaa
