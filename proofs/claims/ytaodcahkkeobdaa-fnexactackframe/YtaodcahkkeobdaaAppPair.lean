import Derived.Test.YtaodcahkkeobdaaIvOf
import Derived.Test.YtaodcahkkeobdaaAppRow
namespace Go.Proofs.Ytaodcahkkeobdaa
open Go.RowKit
set_option linter.unusedVariables false

/-- The cells of a list of pairs. -/
def pcells (R : List (Int × Int)) : List Value := R.flatMap fun p => [.int .i64 p.1, .int .i64 p.2]
theorem pcells_length (R : List (Int × Int)) : (pcells R).length = R.length * 2 := by
  induction R with
  | nil => rfl
  | cons p R ih => simp only [pcells, List.flatMap_cons, List.length_append, List.length_cons, List.length_nil] at ih ⊢; omega
theorem pcells_append (R S : List (Int × Int)) : pcells (R ++ S) = pcells R ++ pcells S := by simp [pcells]
theorem pcells_at (R : List (Int × Int)) (j : Nat) (hj : j < R.length) : (pcells R)[j * 2]? = some (.int .i64 (rlo R j)) ∧ (pcells R)[j * 2 + 1]? = some (.int .i64 (rhi R j)) := by
  induction R generalizing j with
  | nil => simp at hj
  | cons p R ih =>
    cases j with
    | zero => exact ⟨rfl, rfl⟩
    | succ j =>
      have := ih j (by simpa using hj)
      have e : (j + 1) * 2 = j * 2 + 2 := by omega
      rw [e]
      exact this
theorem pcells_of {R : List (Int × Int)} {zs : List Value} (hl : zs.length = R.length * 2) (hz : ∀ j, j < R.length → zs[j * 2]? = some (.int .i64 (rlo R j)) ∧ zs[j * 2 + 1]? = some (.int .i64 (rhi R j))) : zs = pcells R := by
  apply List.ext_getElem?
  intro i
  by_cases hi : i < R.length * 2
  · have h1 := hz (i / 2) (by omega)
    have h2 := pcells_at R (i / 2) (by omega)
    rcases Nat.mod_two_eq_zero_or_one i with e | e
    · have ei : i = i / 2 * 2 := by omega
      rw [ei, h1.1, h2.1]
    · have ei : i = i / 2 * 2 + 1 := by omega
      rw [ei, h1.2, h2.2]
  · rw [List.getElem?_eq_none (by omega), List.getElem?_eq_none (by rw [pcells_length]; omega)]
theorem POwns.cells {T : TypeId} {w : World} {base : Nat} {v : Value} {R : List (Int × Int)} (h : POwns T w base v R) : w.ownsRow base T 2 v R.length (pcells R) := by
  obtain ⟨zs, ho, hz⟩ := h
  rw [← pcells_of ho.1 hz]
  exact ho
theorem POwns.of {T : TypeId} {w : World} {base : Nat} {v : Value} {R : List (Int × Int)} (h : w.ownsRow base T 2 v R.length (pcells R)) : POwns T w base v R := ⟨_, h, fun j hj => pcells_at R j hj⟩
theorem POwns.lt {T : TypeId} {w : World} {base : Nat} {v : Value} {R : List (Int × Int)} (h : POwns T w base v R) (k : Nat) (hk : v.ownBlock = some k) : base ≤ k ∧ k < w.heap.size := by
  obtain ⟨zs, ho, hz⟩ := h
  exact ho.lt k hk
theorem POwns.nil (T : TypeId) (w : World) (base : Nat) : POwns T w base (.slice none 0 0) [] := POwns.of (World.ownsRow_nil _ _ _ _)
theorem pcells_one (R : List (Int × Int)) : ∀ u ∈ pcells R, u.oneCell' = true := by
  intro u hu
  unfold pcells at hu
  rw [List.mem_flatMap] at hu
  obtain ⟨p, _, hp⟩ := hu
  simp only [List.mem_cons, List.not_mem_nil, or_false] at hp
  rcases hp with rfl | rfl <;> rfl
theorem pcells_read {w : World} {b off : Nat} {S : List (Int × Int)} (hc : ∀ j, j < S.length → w.cell? ⟨b, off + j * 2, none⟩ = some (.int .i64 (rlo S j)) ∧ w.cell? ⟨b, off + j * 2 + 1, none⟩ = some (.int .i64 (rhi S j))) (j : Nat) (u : Value) (hj : (pcells S)[j]? = some u) : w.cell? ((⟨b, off, none⟩ : Addr).add j) = some u := by
  have hl : j < S.length * 2 := by
    have := (List.getElem?_eq_some_iff.1 hj).1
    rwa [pcells_length] at this
  rw [Go.WideShapes.add_plain]
  have h1 := pcells_at S (j / 2) (by omega)
  have h2 := hc (j / 2) (by omega)
  rcases Nat.mod_two_eq_zero_or_one j with e | e
  · have ei : j = j / 2 * 2 := by omega
    rw [ei] at hj ⊢
    rw [h1.1] at hj
    rw [h2.1, ← hj]
  · have ei : j = j / 2 * 2 + 1 := by omega
    rw [ei] at hj ⊢
    rw [h1.2] at hj
    rw [← Nat.add_assoc, h2.2, ← hj]
/-- The run: 'append(own, pairs...)'. -/
theorem run_append_pairs {w : World} (tS T ty : TypeId) (ht : Try.prog.underlying tS = some (.slice T)) (hinfo : (Try.prog.info? T).map (fun i => (i.zero, i.size, i.bytes)) = some (some (.agg #[.int .i64 0, .int .i64 0]), 2, 16))
    (base : Nat) (v : Value) (R : List (Int × Int)) (hown : POwns T w base v R) (v2 : Value) (S : List (Int × Int)) (hrow : RRow w v2 S) (h63 : R.length + S.length ≤ 1099511627776) (hbase : base ≤ w.heap.size) :
    ∃ v' w', (Builtin.append_ #[tS, tS] ty #[v, v2]).run Try.prog w = .ok v' w' ∧ POwns T w' base v' (R ++ S) ∧ w.grownBy w' v.ownBlock := by
  obtain ⟨i0, hi, hz0, hz1, hz2⟩ := info_parts hinfo
  by_cases h0 : 0 < S.length
  · obtain ⟨b, off, cap, rfl, hb, hc⟩ := hrow.at' h0
    obtain ⟨v', w', hr, ho', hg, _⟩ := run_append_own (P := Try.prog) w base tS ty T i0 (.agg #[.int .i64 0, .int .i64 0]) 2 16 ht hi hz0 hz1 hz2 rfl (by decide) v R.length (pcells R) hown.cells ⟨b, off, none⟩ S.length cap (pcells S) (pcells_length S) (fun j u hj => pcells_read hc j u hj) (pcells_one S) (by unfold maxLen; omega) (by omega) hbase
    refine ⟨v', w', hr, POwns.of ?_, hg⟩
    rw [pcells_append, List.length_append]
    exact ho'
  · have hn : S = [] := List.eq_nil_of_length_eq_zero (by omega)
    subst hn
    obtain ⟨ao, cap, rfl⟩ := hrow.form
    exact ⟨v, w, run_append_owned_zero (P := Try.prog) (w := w) base tS ty T i0 2 ht hi v R.length (pcells R) ao cap hown.cells, by simpa using hown, ⟨rfl, rfl, rfl, Nat.le_refl _, fun _ _ _ => rfl⟩⟩
theorem wpList_append_pairs {w : World} {ops : Array Oper} {rest : List Oper} {o : Oper} {a : Act} {Q : Exit → Act → World → Prop} (hgd : o.guard = none) (p q : Operand) (tS T : TypeId)
    (ho : o.op = .call { callee := .builtin .append, args := #[p, q], argTypes := #[tS, tS] }) (ht : Try.prog.underlying tS = some (.slice T)) (hinfo : (Try.prog.info? T).map (fun i => (i.zero, i.size, i.bytes)) = some (some (.agg #[.int .i64 0, .int .i64 0]), 2, 16))
    (base : Nat) (v : Value) (R : List (Int × Int)) (hp : a.eval p = v) (hown : POwns T w base v R) (v2 : Value) (S : List (Int × Int)) (hq : a.eval q = v2) (hrow : RRow w v2 S) (h63 : R.length + S.length ≤ 1099511627776) (hbase : base ≤ w.heap.size)
    (h : ∀ v' w', POwns T w' base v' (R ++ S) → w.grownBy w' v.ownBlock → wpList Try.prog ops Q rest (a.put o.dst v') w') :
    wpList Try.prog ops Q (o :: rest) a w := by
  obtain ⟨v', w', hr, h2, h3⟩ := run_append_pairs tS T o.type ht hinfo base v R hown v2 S hrow h63 hbase
  refine wpList_plain hgd fun K hK => ?_
  unfold Oper.wp
  simp [execOp, ho, resolve, invoke, builtin, hp, hq, hr, Result.andThen]
  exact hK _ _ (h v' w' h2 h3)
theorem step_append_pairs {w : World} {ops : Array Oper} {o : Oper} {a : Act} {K : Act → World → Prop} {Q : Exit → Act → World → Prop} {E : Prop} (hgd : o.guard = none) (p q : Operand) (tS T : TypeId)
    (ho : o.op = .call { callee := .builtin .append, args := #[p, q], argTypes := #[tS, tS] }) (ht : Try.prog.underlying tS = some (.slice T)) (hinfo : (Try.prog.info? T).map (fun i => (i.zero, i.size, i.bytes)) = some (some (.agg #[.int .i64 0, .int .i64 0]), 2, 16))
    (base : Nat) (v : Value) (R : List (Int × Int)) (hp : a.eval p = v) (hown : POwns T w base v R) (v2 : Value) (S : List (Int × Int)) (hq : a.eval q = v2) (hrow : RRow w v2 S) (h63 : R.length + S.length ≤ 1099511627776) (hbase : base ≤ w.heap.size)
    (h : ∀ v' w', POwns T w' base v' (R ++ S) → w.grownBy w' v.ownBlock → K (a.put o.dst v') w') :
    if Region.wanted o (yielded ops a.tmps) = true then Oper.wp Try.prog o a w K Q else E := by
  have hw : Region.wanted o (yielded ops a.tmps) = true := by simp [Region.wanted, hgd]
  rw [if_pos hw]
  obtain ⟨v', w', hr, h2, h3⟩ := run_append_pairs tS T o.type ht hinfo base v R hown v2 S hrow h63 hbase
  unfold Oper.wp
  simp [execOp, ho, resolve, invoke, builtin, hp, hq, hr, Result.andThen]
  exact h v' w' h2 h3
/-- A literal of one pair, in a world that has just made it. -/
theorem lit_row (w : World) (x y : Int) (t : TypeId) : RRow (w.alloc (.cells #[.int .i64 x, .int .i64 y] t)) (.slice (some ⟨w.heap.size, 0, none⟩) 1 1) [(x, y)] := by
  refine Or.inr ⟨w.heap.size, 0, 1, rfl, by simp, fun j hj => ?_⟩
  obtain rfl : j = 0 := by simpa using hj
  exact ⟨bk_cell (heap_alloc_new w _) 0, bk_cell (heap_alloc_new w _) 1⟩
theorem POwns.lit0 (T : TypeId) (w : World) (base : Nat) (hb : base ≤ w.heap.size) : POwns T (w.alloc (.cells #[] T)) base (.slice (some ⟨w.heap.size, 0, none⟩) 0 0) [] := POwns.of (World.ownsRow_lit _ #[] 0 hb (by decide) rfl)
end Go.Proofs.Ytaodcahkkeobdaa
