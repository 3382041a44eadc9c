import Derived.OrdersHeld
import Derived.RegionTactic
import Derived.Test.YtpbkigmcbgbfgaaDoorMem
namespace Go.Proofs.YtpbkigmcbgbfgaaDoor
open Go
set_option linter.unusedVariables false

section
variable {P : Program} {ops : Array Oper} {Q : Exit → Act → World → Prop} {md : Region.Mode}

/-- Each operation waits for earlier ones alone. -/
def early (ops : Array Oper) : Bool := (List.range ops.size).all fun j => match ops[j]? with
  | some o => o.after.all fun e => decide (e.on < j)
  | none => true
theorem early_spec (h : early ops = true) {j : Nat} {o : Oper} (ho : ops[j]? = some o) : ∀ e ∈ o.after, e.on < j := by
  have hj : j < ops.size := (Array.getElem?_eq_some_iff.1 ho).1
  have := List.all_eq_true.1 h j (List.mem_range.2 hj)
  rw [ho] at this
  intro e he
  simpa using Array.all_eq_true_iff_forall_mem.1 this e he
theorem getD_in {l : Array Bool} {j : Nat} (h : j < l.size) (b c : Bool) : l.getD j b = l.getD j c := by simp [Array.getD, h]
/-- Nothing may come up: all have come up. -/
theorem all_of_ready {l : Array Bool} (he : early ops = true) (hs : l.size = ops.size) (hr : Region.ready md ops l = []) : ∀ j, j < ops.size → l.getD j false = true := by
  intro j
  induction j using Nat.strongRecOn with
  | ind j ih =>
    intro hj
    cases h : l.getD j false with
    | true => rfl
    | false =>
      exfalso
      have hm : j ∈ Region.ready md ops l := by
        refine mem_ready.2 ⟨by rw [getD_in (by omega) true false]; exact h, ops[j], Array.getElem?_eq_getElem hj, fun e hem _ => ?_⟩
        have hlt := early_spec he (Array.getElem?_eq_getElem hj) e hem
        exact ih e.on hlt (by omega)
      rw [hr] at hm
      cases hm
theorem count_set {l : Array Bool} {j : Nat} (hj : j < l.size) (h : l.getD j true = false) : (l.setIfInBounds j true).toList.count false + 1 = l.toList.count false := by
  have hx : l.toList[j]? = some false := by
    have h2 : l[j] = false := by simpa [Array.getD, hj] using h
    rw [Array.getElem?_toList, Array.getElem?_eq_getElem hj, h2]
  rw [Array.toList_setIfInBounds]
  generalize l.toList = L at hx
  clear h hj
  induction L generalizing j with
  | nil => simp at hx
  | cons b r ih =>
    cases j with
    | zero =>
      simp only [List.getElem?_cons_zero, Option.some.injEq] at hx
      subst hx
      simp
    | succ j =>
      rw [List.getElem?_cons_succ] at hx
      have := ih hx
      cases b <;> simp <;> omega
/-- A region that draws its order, by what holds amid it: each operation is carried out once, whatever has come up ahead of it. -/
theorem any_inv (Inv : (Nat → Bool) → Act → World → Prop) (he : early ops = true)
    (step : ∀ (f : Nat → Bool) (a : Act) (w : World) (j : Nat) (o : Oper), Inv f a w → ops[j]? = some o → f j = false → (∀ e ∈ o.after, Region.binds md e = true → f e.on = true) →
      ∀ K : Act → World → Prop, (∀ a' w', Inv (fun i => i == j || f i) a' w' → K a' w') → if Region.wanted o (yielded ops a.tmps) = true then Oper.wp P o a w K Q else K (a.put o.dst undef) w)
    (done : ∀ (f : Nat → Bool) (a : Act) (w : World), Inv f a w → (∀ j, j < ops.size → f j = true) → Q .normal a w) :
    ∀ (n : Nat) (l : Array Bool) (a : Act) (w : World), l.size = ops.size → l.toList.count false ≤ n → Inv (fun i => l.getD i false) a w → wpAny P md ops Q n l a w := by
  intro n
  induction n with
  | zero =>
    intro l a w hs hc hi
    have hr : Region.ready md ops l = [] := by
      cases h : Region.ready md ops l with
      | nil => rfl
      | cons j r =>
        exfalso
        have hj : j ∈ Region.ready md ops l := by rw [h]; exact List.mem_cons_self ..
        obtain ⟨h1, o, ho, _⟩ := mem_ready.1 hj
        have hjl : j < l.size := by rw [hs]; exact (Array.getElem?_eq_some_iff.1 ho).1
        have := count_set hjl h1
        omega
    exact ⟨hr, done _ a w hi (all_of_ready he hs hr)⟩
  | succ n ih =>
    intro l a w hs hc hi
    refine ⟨fun hr => done _ a w hi (all_of_ready he hs hr), fun j hj => ?_⟩
    obtain ⟨h1, o, ho, hall⟩ := mem_ready.1 hj
    have hjl : j < l.size := by rw [hs]; exact (Array.getElem?_eq_some_iff.1 ho).1
    refine wpOp_step ho (fun K hK => step _ a w j o hi ho (by show l.getD j false = false; rw [getD_in hjl false true]; exact h1) hall K (fun a' w' hi' => hK a' w' (ih _ a' w' (by simpa using hs) (by have := count_set hjl h1; omega) ?_)))
    have e : (fun i => (l.setIfInBounds j true).getD i false) = fun i => i == j || l.getD i false := by
      funext i
      by_cases hij : i = j
      · subst hij; simp [Array.getD, hjl]
      · have : (i == j) = false := by simpa using hij
        rw [this, Bool.false_or]
        by_cases hi2 : i < l.size
        · simp [Array.getD, hi2, Ne.symm hij]
        · simp [Array.getD, hi2]
    rw [e]
    exact hi'
theorem region_I {id : Nat} {a : Act} {w : World} (Inv : (Nat → Bool) → Act → World → Prop) (hm : P.follows .mixedOrders = true) (he : early ops = true)
    (step : ∀ (f : Nat → Bool) (a : Act) (w : World) (j : Nat) (o : Oper), Inv f a w → ops[j]? = some o → f j = false → (∀ e ∈ o.after, Region.binds .any e = true → f e.on = true) →
      ∀ K : Act → World → Prop, (∀ a' w', Inv (fun i => i == j || f i) a' w' → K a' w') → if Region.wanted o (yielded ops a.tmps) = true then Oper.wp P o a w K Q else K (a.put o.dst undef) w)
    (done : ∀ (f : Nat → Bool) (a : Act) (w : World), Inv f a w → (∀ j, j < ops.size → f j = true) → Q .normal a w)
    (h : Inv (fun _ => false) a w.drew) : (Code.region id ops true).wp P Q a w := by
  refine wp_region_any hm (any_inv Inv he step done _ _ _ _ (by simp) (by simp) ?_)
  have e : (fun i => (Array.replicate ops.size false).getD i false) = fun _ => false := by
    funext i
    simp only [Array.getD]
    split <;> simp
  rw [e]
  exact h
end
end Go.Proofs.YtpbkigmcbgbfgaaDoor
