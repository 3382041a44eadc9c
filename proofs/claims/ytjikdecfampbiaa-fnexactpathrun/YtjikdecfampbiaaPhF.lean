import Derived.Test.YtjikdecfampbiaaPhE
import Derived.Test.YtjikdecfampbiaaIEq8
namespace Go.Proofs.Ytjikdecfampbiaa
open Go.RowKit
set_option linter.unusedVariables false
set_option linter.unusedSimpArgs false

theorem eql8_run (x0 x1 x2 x3 x4 x5 x6 x7 y0 y1 y2 y3 y4 y5 y6 y7 : Int) (w : World) : (binOp .eql 78 (.agg #[.int .u8 x0, .int .u8 x1, .int .u8 x2, .int .u8 x3, .int .u8 x4, .int .u8 x5, .int .u8 x6, .int .u8 x7]) (.agg #[.int .u8 y0, .int .u8 y1, .int .u8 y2, .int .u8 y3, .int .u8 y4, .int .u8 y5, .int .u8 y6, .int .u8 y7])).run Try.prog w = .ok (.bool (decide ([x0, x1, x2, x3, x4, x5, x6, x7] = [y0, y1, y2, y3, y4, y5, y6, y7]))) w := by
  have EQ := eq8 x0 x1 x2 x3 x4 x5 x6 x7 y0 y1 y2 y3 y4 y5 y6 y7 9998 w
  generalize hX : (Value.agg #[.int .u8 x0, .int .u8 x1, .int .u8 x2, .int .u8 x3, .int .u8 x4, .int .u8 x5, .int .u8 x6, .int .u8 x7]) = X at EQ ⊢
  generalize hY : (Value.agg #[.int .u8 y0, .int .u8 y1, .int .u8 y2, .int .u8 y3, .int .u8 y4, .int .u8 y5, .int .u8 y6, .int .u8 y7]) = Y at EQ ⊢
  subst hX hY
  unfold binOp
  simp only [Op.equal]
  have EQ' : (Op.equalIn Op.maxDepth 78 (Value.agg #[.int .u8 x0, .int .u8 x1, .int .u8 x2, .int .u8 x3, .int .u8 x4, .int .u8 x5, .int .u8 x6, .int .u8 x7]) (Value.agg #[.int .u8 y0, .int .u8 y1, .int .u8 y2, .int .u8 y3, .int .u8 y4, .int .u8 y5, .int .u8 y6, .int .u8 y7])).run Try.prog w = _ := EQ
  simp only [Sem.run_bind, EQ', Result.andThen_ok, Sem.run_pure]
theorem egrd8_run (p q : Operand) (X Y : Array Value) (w : World) : (eqGuard .eql 78 p q (.agg X) (.agg Y)).run Try.prog w = .ok () w := by
  simp [eqGuard]
set_option maxRecDepth 20000 in
set_option maxHeartbeats 1000000 in
theorem clo1 (c : List Int × Nat) (y0 y1 y2 y3 y4 y5 y6 y7 : Int) (b : Nat) (w : World) (hb : w.heap[b]? = some (.cells #[.int .u8 y0, .int .u8 y1, .int .u8 y2, .int .u8 y3, .int .u8 y4, .int .u8 y5, .int .u8 y6, .int .u8 y7] 78 (0, 0))) (h8 : c.1.length = 8) :
    Calls Try.prog 38 #[.agg (wrow c).toArray, .pointer (some ⟨b, 0, none⟩)] w fun e w' => e = .returned (.bool (decide (c.1 = [y0, y1, y2, y3, y4, y5, y6, y7]))) ∧ Below w.heap.size w w' := by
  obtain ⟨D, a⟩ := c
  dsimp only at h8 ⊢
  obtain ⟨x0, x1, x2, x3, x4, x5, x6, x7, rfl⟩ := len8 h8
  rw [show (wrow ([x0, x1, x2, x3, x4, x5, x6, x7], a)).toArray = #[.int .u8 x0, .int .u8 x1, .int .u8 x2, .int .u8 x3, .int .u8 x4, .int .u8 x5, .int .u8 x6, .int .u8 x7, .int .i64 (a : Int)] from rfl]
  have hl := (Array.getElem?_eq_some_iff.1 hb).1
  have r0 : w.cell? ⟨b, 0, none⟩ = some (.int .u8 y0) := (bk_cell hb 0).trans rfl
  have r1 : w.cell? ⟨b, 1, none⟩ = some (.int .u8 y1) := (bk_cell hb 1).trans rfl
  have r2 : w.cell? ⟨b, 2, none⟩ = some (.int .u8 y2) := (bk_cell hb 2).trans rfl
  have r3 : w.cell? ⟨b, 3, none⟩ = some (.int .u8 y3) := (bk_cell hb 3).trans rfl
  have r4 : w.cell? ⟨b, 4, none⟩ = some (.int .u8 y4) := (bk_cell hb 4).trans rfl
  have r5 : w.cell? ⟨b, 5, none⟩ = some (.int .u8 y5) := (bk_cell hb 5).trans rfl
  have r6 : w.cell? ⟨b, 6, none⟩ = some (.int .u8 y6) := (bk_cell hb 6).trans rfl
  have r7 : w.cell? ⟨b, 7, none⟩ = some (.int .u8 y7) := (bk_cell hb 7).trans rfl
  have EQ := fun u : World => eql8_run x0 x1 x2 x3 x4 x5 x6 x7 y0 y1 y2 y3 y4 y5 y6 y7 u
  have EG := fun (p q : Operand) (u : World) => egrd8_run p q #[.int .u8 x0, .int .u8 x1, .int .u8 x2, .int .u8 x3, .int .u8 x4, .int .u8 x5, .int .u8 x6, .int .u8 x7] #[.int .u8 y0, .int .u8 y1, .int .u8 y2, .int .u8 y3, .int .u8 y4, .int .u8 y5, .int .u8 y6, .int .u8 y7] u
  generalize decide ([x0, x1, x2, x3, x4, x5, x6, x7] = [y0, y1, y2, y3, y4, y5, y6, y7]) = z at EQ ⊢
  clear hb h8
  go_enter Try.func38, Try.ntmps38
  go_wp2
  go_ret
  exact ⟨rfl, (Below.refl _ _).alloc (Nat.le_refl _) _⟩
set_option maxRecDepth 20000 in
set_option maxHeartbeats 1000000 in
theorem clo2 (c : List Int × Nat) (ad : Nat) (b : Nat) (w : World) (hb : w.heap[b]? = some (.cells #[.int .i64 (ad : Int)] 3 (0, 0))) (h8 : c.1.length = 8) :
    Calls Try.prog 40 #[.agg (wrow c).toArray, .pointer (some ⟨b, 0, none⟩)] w fun e w' => e = .returned (.bool (decide (c.2 = ad))) ∧ Below w.heap.size w w' := by
  obtain ⟨D, a⟩ := c
  dsimp only at h8 ⊢
  obtain ⟨x0, x1, x2, x3, x4, x5, x6, x7, rfl⟩ := len8 h8
  rw [show (wrow ([x0, x1, x2, x3, x4, x5, x6, x7], a)).toArray = #[.int .u8 x0, .int .u8 x1, .int .u8 x2, .int .u8 x3, .int .u8 x4, .int .u8 x5, .int .u8 x6, .int .u8 x7, .int .i64 (a : Int)] from rfl]
  have hl := (Array.getElem?_eq_some_iff.1 hb).1
  have r0 : w.cell? ⟨b, 0, none⟩ = some (.int .i64 (ad : Int)) := (bk_cell hb 0).trans rfl
  have hz : ((a : Int) == (ad : Int)) = decide (a = ad) := by
    by_cases e : a = ad
    · subst e; simp
    · rw [decide_eq_false e]; simp; omega
  generalize decide (a = ad) = z at hz ⊢
  clear hb h8
  go_enter Try.func40, Try.ntmps40
  go_wp2
  go_ret
  exact ⟨by first | rfl | simp [hz], (Below.refl _ _).alloc (Nat.le_refl _) _⟩
end Go.Proofs.Ytjikdecfampbiaa
