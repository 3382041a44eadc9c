import Derived.Test.YthjakbpcpfmbjaaChT
import Derived.Maps.OwnSet
namespace Go.Proofs.Ythjakbpcpfmbjaa
open Go.RowKit
set_option linter.unusedVariables false

/-- How a pointer in a map reads. -/
def ptrE (v : Value) : Option (DataW Unit × List MemPlace) :=
  match v with
  | .pointer none => some (.nil, [])
  | .pointer (some ⟨b, 0, none⟩) => some (.lit (.int .i64 (b : Int)), [])
  | _ => none
def pval : Option Nat → Value
  | none => .pointer none
  | some b => .pointer (some ⟨b, 0, none⟩)
def penc : Option Nat → DataW Unit
  | none => .nil
  | some b => .lit (.int .i64 (b : Int))
theorem ptrE_val (x : Option Nat) : ptrE (pval x) = some (penc x, []) := by cases x <;> rfl
theorem ptrE_inv {v : Value} {x : Option Nat} {p : List MemPlace} (h : ptrE v = some (penc x, p)) : v = pval x := by
  unfold ptrE at h
  split at h
  · cases x with
    | none => rfl
    | some b => simp only [penc, Option.some.injEq, Prod.mk.injEq] at h; exact absurd h.1 (by intro e; cases e)
  · cases x with
    | none => simp only [penc, Option.some.injEq, Prod.mk.injEq] at h; exact absurd h.1 (by intro e; cases e)
    | some b =>
      simp only [penc, Option.some.injEq, Prod.mk.injEq] at h
      have e := h.1
      injection e with e
      injection e with _ e
      simp only [pval]
      rw [show _ = b from Int.ofNat.inj e]
  · cases h
def updI {α : Type} (f : Int → α) (k : Int) (x : α) : Int → α := fun j => if j = k then x else f j
/-- A map from numbers to pointers, of one's own. -/
def PM (w : World) (b n : Nat) (f : Int → Option Nat) : Prop :=
  ∃ D : DataW Unit, w.ownsMap Try.prog 3 ptrE b n D ∧ ∀ id, (Lit.int .i64 id).wf = true → D.atKey (.int .i64 id) .nil = penc (f id)
theorem keyI {id : Int} (h : (Lit.int .i64 id).wf = true) : keyOf Try.prog 3 (.int .i64 id) = some (.int .i64 id) := Maps.keyOf_int_mk Try.underlying3 h
theorem keyedI : Maps.Keyed Try.prog 3 := Maps.int_keyed Try.underlying3
theorem isKeyI {id : Int} (h : (Lit.int .i64 id).wf = true) : WideAt.IsKeyLit (.int .i64 id) := by
  first | exact h | (unfold WideAt.IsKeyLit; first | exact h | trivial | simp [h])
theorem zeroPtr (w : World) : (zeroValue 71).run Try.prog w = .ok (.pointer none) w := by kernel_rfl
section
variable {w w' : World} {b n : Nat} {f : Int → Option Nat}
theorem PM.new (w : World) : PM (w.alloc (.map #[] 0)) w.heap.size 0 (fun _ => none) :=
  ⟨_, World.ownsMap_made w _ _ _, fun id h => rfl⟩
theorem PM.lt (h : PM w b n f) : b < w.heap.size := by obtain ⟨D, o, _⟩ := h; exact o.lt
theorem PM.isMap (h : PM w b n f) : ∃ es c, w.heap[b]? = some (.map es c) := by obtain ⟨D, ⟨es, c, hb, _⟩, _⟩ := h; exact ⟨es, c, hb⟩
theorem PM.same (h : PM w b n f) (e : w'.heap[b]? = w.heap[b]?) : PM w' b n f := by
  obtain ⟨D, ⟨es, c, hb, r⟩, q⟩ := h
  exact ⟨D, ⟨es, c, e.trans hb, r⟩, q⟩
theorem PM.mono (h : PM w b n f) {n' : Nat} (hn : n ≤ n') : PM w b n' f := by
  obtain ⟨D, o, q⟩ := h
  exact ⟨D, o.mono hn, q⟩
theorem PM.congr (h : PM w b n f) {f' : Int → Option Nat} (e : ∀ id, (Lit.int .i64 id).wf = true → f' id = f id) : PM w b n f' := by
  obtain ⟨D, o, q⟩ := h
  exact ⟨D, o, fun id hi => by rw [e id hi]; exact q id hi⟩
theorem PM.setCell (h : PM w b n f) {a : Addr} (ha : b ≠ a.block) (u : Value) : PM (w.setCell a u) b n f := by
  obtain ⟨D, o, q⟩ := h
  exact ⟨D, o.setCell ha u, q⟩
/-- m[k]. -/
theorem PM.look (h : PM w b n f) {id : Int} (hi : (Lit.int .i64 id).wf = true) : (Instr.lookup 73 (.map (some b)) (.int .i64 id) false).run Try.prog w = .ok (pval (f id)) w := by
  obtain ⟨D, o, q⟩ := h
  obtain ⟨v, ps, hr, hv⟩ := o.lookup keyedI Try.underlying73 (zeroPtr w) (zd := .nil) (zp := []) rfl (keyI hi)
  rw [q id hi] at hv
  rw [hr, ptrE_inv hv]
/-- m[k] = p. -/
theorem PM.put (h : PM w b n f) {id : Int} (hi : (Lit.int .i64 id).wf = true) (x : Option Nat) (hn : n < maxLen) : ∃ w', (Instr.mapUpdate 73 (.map (some b)) (.int .i64 id) (pval x)).run Try.prog w = .ok () w' ∧ PM w' b (n + 1) (updI f id x) ∧ w.mapTurned w' b := by
  obtain ⟨D, o, q⟩ := h
  obtain ⟨w', hr, o', t⟩ := o.store keyedI Try.underlying73 hn (keyI hi) (ptrE_val x)
  refine ⟨w', hr, ⟨_, o', fun id' hi' => ?_⟩, t⟩
  unfold updI
  by_cases e : id' = id
  · subst e
    rw [if_pos rfl, Maps.atKey_put_same o.isMap (isKeyI hi)]
  · rw [if_neg e, Maps.atKey_put_other (by intro c; injection c with _ c; exact e c)]
    exact q id' hi'
/-- delete(m, k). -/
theorem PM.del (h : PM w b n f) {id : Int} (hi : (Lit.int .i64 id).wf = true) (ty : TypeId) : ∃ w', (Builtin.delete_ #[73, 3] ty #[.map (some b), .int .i64 id]).run Try.prog w = .ok (.tuple #[]) w' ∧ PM w' b n (updI f id none) ∧ w.mapTurned w' b := by
  obtain ⟨D, o, q⟩ := h
  obtain ⟨w', hr, o', t⟩ := o.drop keyedI Try.underlying73 (keyI hi) ty
  refine ⟨w', hr, ⟨_, o', fun id' hi' => ?_⟩, t⟩
  unfold updI
  by_cases e : id' = id
  · subst e
    rw [if_pos rfl, Maps.atKey_del_same]; rfl
  · rw [if_neg e, Maps.atKey_del_other (by intro c; injection c with _ c; exact e c)]
    exact q id' hi'
end
/-- What stays where a map has turned. -/
theorem turned_other {w w' : World} {b : Nat} (h : w.mapTurned w' b) {k : Nat} (hk : k ≠ b) : w'.heap[k]? = w.heap[k]? := by
  obtain ⟨es, c, es', c', hb, rfl⟩ := h
  exact ChangeMaps.heap_setBlock_other hb _ hk
theorem turned_size {w w' : World} {b : Nat} (h : w.mapTurned w' b) : w'.heap.size = w.heap.size := by
  obtain ⟨es, c, es', c', hb, rfl⟩ := h
  simp [ChangeMaps.setBlock]
theorem turned_ch {S : TypeId → Bool} {base : Nat} {w w' : World} {b : Nat} (h : w.mapTurned w' b) (hb : base ≤ b) : ChT S base w w' := by
  refine ChT.of_grown h.grown fun k hk => ?_
  obtain rfl : b = k := Option.some.inj hk
  obtain ⟨es, c, es', c', hb', rfl⟩ := h
  exact ⟨hb, fun c T fr e => by rw [hb'] at e; cases e⟩
/-- The store into a map at the operation, for the walk. -/
theorem wpList_putP {w : World} {ops : Array Oper} {rest : List Oper} {o : Oper} {a : Act} {Q : Exit → Act → World → Prop} (hg : o.guard = none) (m x v : Operand) (hop : o.op = Op.mapUpdate 73 m x v)
    (b n : Nat) (f : Int → Option Nat) (id : Int) (y : Option Nat) (hm : a.eval m = .map (some b)) (hx : a.eval x = .int .i64 id) (hv : a.eval v = pval y) (h : PM w b n f) (hi : (Lit.int .i64 id).wf = true) (hn : n < maxLen)
    (hK : ∀ w', PM w' b (n + 1) (updI f id y) → w.mapTurned w' b → wpList Try.prog ops Q rest (a.put o.dst undef) w') : wpList Try.prog ops Q (o :: rest) a w := by
  refine wpList_plain hg fun K' hK' => ?_
  obtain ⟨w', hrun, r1, r2⟩ := h.put hi y hn
  unfold Oper.wp
  simp [execOp, hop, hm, hx, hv, hrun, Result.andThen]
  exact hK' _ _ (hK w' r1 r2)
/-- The same within a region that draws its order. -/
theorem step_putP {w : World} {ops : Array Oper} {o : Oper} {a : Act} {KK : Act → World → Prop} {Q : Exit → Act → World → Prop} {E : Prop} (hgd : o.guard = none) (m x v : Operand) (hop : o.op = Op.mapUpdate 73 m x v)
    (b n : Nat) (f : Int → Option Nat) (id : Int) (y : Option Nat) (hm : a.eval m = .map (some b)) (hx : a.eval x = .int .i64 id) (hv : a.eval v = pval y) (h : PM w b n f) (hi : (Lit.int .i64 id).wf = true) (hn : n < maxLen)
    (hK : ∀ w', PM w' b (n + 1) (updI f id y) → w.mapTurned w' b → KK (a.put o.dst undef) w') : if Region.wanted o (yielded ops a.tmps) = true then Oper.wp Try.prog o a w KK Q else E := by
  have hw : Region.wanted o (yielded ops a.tmps) = true := by simp [Region.wanted, hgd]
  rw [if_pos hw]
  obtain ⟨w', hrun, r1, r2⟩ := h.put hi y hn
  unfold Oper.wp
  simp [execOp, hop, hm, hx, hv, hrun, Result.andThen]
  exact hK w' r1 r2
end Go.Proofs.Ythjakbpcpfmbjaa
