import Derived.Test.YtiiefhpkkjocbakDoorAppRow
import Derived.Laws.Rows
import Derived.Deep.RegionLaw
import Derived.Deep.CutRange
namespace Go.Proofs.YtiiefhpkkjocbakDoor
open Go.RowKit
set_option linter.unusedVariables false
set_option linter.unusedSimpArgs false

theorem name_any {P : Program} {md : Region.Mode} {ops : Array Oper} {Q : Exit → Act → World → Prop} {fuel : Nat} {listed : Array Bool} {a : Act} {w : World}
    (h : ∀ (M : Region.Mode) (O : Array Oper) (Q0 : Exit → Act → World → Prop) (a0 : Act), M = md → O = ops → Q0 = Q → a0 = a → wpAny P M O Q0 fuel listed a0 w) : wpAny P md ops Q fuel listed a w := h _ _ _ _ rfl rfl rfl rfl
theorem any_cast {P : Program} {md : Region.Mode} {ops : Array Oper} {Q : Exit → Act → World → Prop} {fuel : Nat} {l l' : Array Bool} {a a' : Act} {w : World} (hl : l' = l) (ha : a' = a) (h : wpAny P md ops Q fuel l a w) : wpAny P md ops Q fuel l' a' w := by
  subst hl ha; exact h
theorem step_any {ops : Array Oper} {o : Oper} {a : Act} {w : World} {K : Act → World → Prop} {Q : Exit → Act → World → Prop} {E : Prop} (hgd : o.guard = none) (h : Oper.wp Tryd.prog o a w K Q) :
    if Region.wanted o (yielded ops a.tmps) = true then Oper.wp Tryd.prog o a w K Q else E := by
  have hw : Region.wanted o (yielded ops a.tmps) = true := by simp [Region.wanted, hgd]
  rw [if_pos hw]
  exact h
theorem wp_first {o : Oper} {a : Act} {w : World} {K : Act → World → Prop} {Q : Exit → Act → World → Prop} (d : Tmp) (hd : o.dst = some d) (ts : Array TypeId)
    (ho : o.op = .call { callee := .value (.func 40), args := #[.const (.int .i64 3)], argTypes := ts }) {R : Ending → World → Prop} (hc : Calls Tryd.prog 40 #[.int .i64 3] w R) (hK : ∀ e w', R e w' → ∃ v, e = .returned v ∧ K (a.put (some d) v) w') : Oper.wp Tryd.prog o a w K Q := by
  obtain ⟨dst, op, ty, pos, after, guard⟩ := o
  simp only at hd ho
  subst hd ho
  go_simp
  refine hc.mono ?_
  intro e w' h
  obtain ⟨v, rfl, hk⟩ := hK e w' h
  exact hk
set_option maxRecDepth 20000 in
theorem wp_long {o : Oper} {a : Act} {w : World} {K : Act → World → Prop} {Q : Exit → Act → World → Prop} (d : Tmp) (hd : o.dst = some d) (ts : Array TypeId) (i j k l : Tmp) (x y z u : Value) (hi : a.tmps[i]?.getD undef = x) (hj : a.tmps[j]?.getD undef = y) (hk : a.tmps[k]?.getD undef = z) (hl : a.tmps[l]?.getD undef = u)
    (ho : o.op = .call { callee := .value (.func 39), args := #[.tmp i, .tmp j, .tmp k, .tmp l], argTypes := ts }) {R : Ending → World → Prop} (hc : Calls Tryd.prog 39 #[x, y, z, u] w R) (hK : ∀ e w', R e w' → ∃ v, e = .returned v ∧ K (a.put (some d) v) w') : Oper.wp Tryd.prog o a w K Q := by
  obtain ⟨dst, op, ty, pos, after, guard⟩ := o
  simp only at hd ho
  subst hd ho
  go_simp
  refine hc.mono ?_
  intro e w' h
  obtain ⟨v, rfl, hk⟩ := hK e w' h
  exact hk
theorem wp_loadi {o : Oper} {a : Act} {w : World} {K : Act → World → Prop} {Q : Exit → Act → World → Prop} (x : Tmp) (d : Tmp) (hd : o.dst = some d) (ho : o.op = .load 3 (.tmp x)) (g i : Nat) (hx : a.tmps[x]?.getD undef = .pointer (some ⟨g, i, none⟩)) (v : Value) (hc : w.cell? ⟨g, i, none⟩ = some v)
    (hK : K (a.put (some d) v) w) : Oper.wp Tryd.prog o a w K Q := by
  obtain ⟨dst, op, ty, pos, after, guard⟩ := o
  simp only at hd ho
  subst hd ho
  go_simp
  exact hK
theorem wp_loadb {o : Oper} {a : Act} {w : World} {K : Act → World → Prop} {Q : Exit → Act → World → Prop} (x : Tmp) (d : Tmp) (hd : o.dst = some d) (ho : o.op = .load 22 (.tmp x)) (g i : Nat) (hx : a.tmps[x]?.getD undef = .pointer (some ⟨g, i, none⟩)) (v : Value) (hc : w.cell? ⟨g, i, none⟩ = some v)
    (hK : K (a.put (some d) v) w) : Oper.wp Tryd.prog o a w K Q := by
  obtain ⟨dst, op, ty, pos, after, guard⟩ := o
  simp only at hd ho
  subst hd ho
  go_simp
  exact hK
theorem wp_assign {o : Oper} {a : Act} {w : World} {K : Act → World → Prop} {Q : Exit → Act → World → Prop} (x : Tmp) (d : Tmp) (hd : o.dst = some d) (ho : o.op = .assign (.tmp x)) (v : Value) (hx : a.tmps[x]?.getD undef = v)
    (hK : K (a.put (some d) v) w) : Oper.wp Tryd.prog o a w K Q := by
  obtain ⟨dst, op, ty, pos, after, guard⟩ := o
  simp only at hd ho
  subst hd ho
  go_simp
  exact hK
theorem wp_app {o : Oper} {a : Act} {w : World} {K : Act → World → Prop} {Q : Exit → Act → World → Prop} {d : Tmp} {x y : Tmp} (hd : o.dst = some d)
    (ho : o.op = .call { callee := .builtin .append, args := #[.tmp x, .tmp y], argTypes := #[22, 22] })
    (base : Nat) (v : Value) (n : Nat) (xs : List Int) (hp : a.tmps[x]?.getD undef = v) (hown : w.ownsRow base 5 1 v n (xs.map (Value.int .u8)))
    (v2 : Value) (ys : List Int) (hq : a.tmps[y]?.getD undef = v2) (hrow : Row w .u8 v2 ys) (h63 : n + ys.length ≤ 140737488355328) (hbase : base ≤ w.heap.size)
    (h : ∀ v' w', w'.ownsRow base 5 1 v' (n + ys.length) ((xs ++ ys).map (Value.int .u8)) → w.grownBy w' v.ownBlock → K (a.put (some d) v') w') : Oper.wp Tryd.prog o a w K Q := by
  obtain ⟨v', w', hr, h2, h3⟩ := run_append_row o.type base v n xs hown v2 ys hrow h63 hbase
  have e1 : a.eval (.tmp x) = v := by rw [← hp]; simp [Act.eval]
  have e2 : a.eval (.tmp y) = v2 := by rw [← hq]; simp [Act.eval]
  unfold Oper.wp execOp
  simp only [ho, resolve, invoke, builtin, Sem.run_bind, Sem.run_pure, Result.andThen_ok, List.map_toArray, List.map_cons, List.map_nil, e1, e2, hr]
  rw [Oper.upon_value, hd]
  exact h v' w' h2 h3
theorem put_comm {a : Act} {x y : Value} (i j : Nat) (h : i ≠ j) : (a.put (some i) x).put (some j) y = (a.put (some j) y).put (some i) x := by
  simp only [Act.put]
  congr 1
  exact Array.setIfInBounds_comm _ _ h
theorem get_ne {a : Act} {x : Value} {i j : Nat} (h : i ≠ j) : (a.put (some i) x).tmps[j]?.getD undef = a.tmps[j]?.getD undef := by
  simp [Act.put, Array.getElem?_setIfInBounds, h]
theorem get_eq {a : Act} {x : Value} {i : Nat} (h : i < a.tmps.size) : (a.put (some i) x).tmps[i]?.getD undef = x := by
  simp [Act.put, Array.getElem?_setIfInBounds, h]
theorem put_size {a : Act} {x : Value} {i : Nat} : (a.put (some i) x).tmps.size = a.tmps.size := by
  simp [Act.put]
theorem put_lit9 (l : List Value) (d : Nat) (v : Value) (ds : List _) : ({ tmps := l.toArray, defers := ds } : Act).put (some d) v = { tmps := (l.set d v).toArray, defers := ds } := by
  simp [Act.put]
end Go.Proofs.YtiiefhpkkjocbakDoor
