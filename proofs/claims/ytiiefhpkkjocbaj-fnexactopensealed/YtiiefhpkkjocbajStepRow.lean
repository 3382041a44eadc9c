import Derived.Test.YtiiefhpkkjocbajISeal
import Derived.Test.YtiiefhpkkjocbajIEq8
namespace Go.Proofs.Ytiiefhpkkjocbaj
open Go.RowKit
set_option linter.unusedVariables false
set_option linter.unusedSimpArgs false

theorem infoT8 : (Try.prog.info? 55).map (·.size) = some 8 := by kernel_rfl
theorem infoTs (xs : List Int) (h : xs.length = 8) : (Try.prog.info? 55).map (·.size) = some (u8s xs).toArray.size := by rw [infoT8]; simp [u8s_length, h]
/-- An operation without a guard, as one step of a region that draws. -/
theorem step_wp {ops : Array Oper} {o : Oper} {a : Act} {w : World} {K : Act → World → Prop} {Q : Exit → Act → World → Prop} {E : Prop} (hgd : o.guard = none) (h : Oper.wp Try.prog o a w K Q) :
    if Region.wanted o (yielded ops a.tmps) = true then Oper.wp Try.prog o a w K Q else E := by
  have hw : Region.wanted o (yielded ops a.tmps) = true := by simp [Region.wanted, hgd]
  rw [if_pos hw]
  exact h
/-- Two arrays of eight bytes compared, as one step of a region that draws. -/
theorem step_neq8 {ops : Array Oper} {o : Oper} {a : Act} {w : World} {K : Act → World → Prop} {Q : Exit → Act → World → Prop} {E : Prop} (hgd : o.guard = none) (p q : Operand) (ho : o.op = .binOp .neq 55 p q 55)
    (xs ys : List Int) (lx : xs.length = 8) (ly : ys.length = 8) (hp : a.eval p = .agg (u8s xs).toArray) (hq : a.eval q = .agg (u8s ys).toArray)
    (b : Bool) (hb : b = !(decide (xs = ys))) (h : K (a.put o.dst (.bool b)) w) : if Region.wanted o (yielded ops a.tmps) = true then Oper.wp Try.prog o a w K Q else E := by
  have hw : Region.wanted o (yielded ops a.tmps) = true := by simp [Region.wanted, hgd]
  rw [if_pos hw]
  obtain ⟨x0, x1, x2, x3, x4, x5, x6, x7, rfl⟩ := list8 xs lx
  obtain ⟨y0, y1, y2, y3, y4, y5, y6, y7, rfl⟩ := list8 ys ly
  have EQ := eq8 x0 x1 x2 x3 x4 x5 x6 x7 y0 y1 y2 y3 y4 y5 y6 y7 9998 w
  have ux : (u8s [x0, x1, x2, x3, x4, x5, x6, x7]).toArray = #[.int .u8 x0, .int .u8 x1, .int .u8 x2, .int .u8 x3, .int .u8 x4, .int .u8 x5, .int .u8 x6, .int .u8 x7] := rfl
  have uy : (u8s [y0, y1, y2, y3, y4, y5, y6, y7]).toArray = #[.int .u8 y0, .int .u8 y1, .int .u8 y2, .int .u8 y3, .int .u8 y4, .int .u8 y5, .int .u8 y6, .int .u8 y7] := rfl
  rw [ux] at hp
  rw [uy] at hq
  have hgu : (eqGuard .neq 55 p q (a.eval p) (a.eval q)).run Try.prog w = .ok () w := by
    simp [eqGuard, hp, hq, run_underlying Try.underlying55]
  rw [hp, hq] at hgu
  generalize hX : (Value.agg #[.int .u8 x0, .int .u8 x1, .int .u8 x2, .int .u8 x3, .int .u8 x4, .int .u8 x5, .int .u8 x6, .int .u8 x7]) = X at hp hgu EQ
  generalize hY : (Value.agg #[.int .u8 y0, .int .u8 y1, .int .u8 y2, .int .u8 y3, .int .u8 y4, .int .u8 y5, .int .u8 y6, .int .u8 y7]) = Y at hq hgu EQ
  have hbin : (binOp .neq 55 X Y).run Try.prog w = .ok (.bool b) w := by
    subst hX hY
    unfold binOp
    simp only [Op.equal]
    have EQ' : (Op.equalIn Op.maxDepth 55 (Value.agg #[.int .u8 x0, .int .u8 x1, .int .u8 x2, .int .u8 x3, .int .u8 x4, .int .u8 x5, .int .u8 x6, .int .u8 x7]) (Value.agg #[.int .u8 y0, .int .u8 y1, .int .u8 y2, .int .u8 y3, .int .u8 y4, .int .u8 y5, .int .u8 y6, .int .u8 y7])).run Try.prog w = _ := EQ
    simp only [Sem.run_bind, EQ', Result.andThen_ok, Sem.run_pure, hb]
  unfold Oper.wp execOp
  simp only [ho, hp, hq, Sem.run_bind, hgu, hbin, Result.andThen_ok, Sem.run_pure]
  exact h
end Go.Proofs.Ytiiefhpkkjocbaj
