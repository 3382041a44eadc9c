import Derived.Test.YtdjflbanbhhniaaDoorFlField
import Derived.Test.YtdjflbanbhhniaaDoorTbZ
import Derived.Test.YtdjflbanbhhniaaDoorAppRow
import Derived.Test.YtdjflbanbhhniaaDoorBlocks
import Derived.Laws.Rows
namespace Go.Proofs.YtdjflbanbhhniaaDoor
open Go.RowKit
set_option linter.unusedVariables false

theorem infoFd3Q : (Tryd.prog.info? 44).map (fun i => (i.zero, i.size, i.bytes)) = some (some (.agg #[.string ⟨#[]⟩, .string ⟨#[]⟩]), 2, 32) := by kernel_rfl
def rcQ : List SField → List Value
  | [] => []
  | x :: r => .string x.f0 :: .string x.f1 :: rcQ r
theorem rc_lengthFQ : ∀ L, (rcQ L).length = 2 * L.length
  | [] => rfl
  | x :: r => by simp [rcQ, rc_lengthFQ r]; omega
theorem rc_get0FQ : ∀ (L : List SField) (j : Nat), j < L.length → (rcQ L)[j * 2]? = some (.string (L.getD j default).f0)
  | [], j, h => by simp at h
  | x :: r, 0, h => by simp [rcQ]
  | x :: r, j + 1, h => by
    have := rc_get0FQ r j (by simpa using h)
    rw [show (j + 1) * 2 = j * 2 + 1 + 1 by omega]
    simpa [rcQ] using this
theorem rc_get1FQ : ∀ (L : List SField) (j : Nat), j < L.length → (rcQ L)[j * 2 + 1]? = some (.string (L.getD j default).f1)
  | [], j, h => by simp at h
  | x :: r, 0, h => by simp [rcQ]
  | x :: r, j + 1, h => by
    have := rc_get1FQ r j (by simpa using h)
    rw [show (j + 1) * 2 + 1 = j * 2 + 1 + 1 + 1 by omega]
    simpa [rcQ] using this
theorem rc_appendFQ : ∀ A B : List SField, rcQ (A ++ B) = rcQ A ++ rcQ B
  | [], B => rfl
  | x :: r, B => by simp [rcQ, rc_appendFQ r B]
theorem rc_oneFQ (L : List SField) : ∀ v ∈ rcQ L, v.oneCell' = true := by
  induction L with
  | nil => simp [rcQ]
  | cons x r ih =>
    intro v hv
    simp only [rcQ, List.mem_cons] at hv
    rcases hv with rfl | rfl | hv
    · rfl
    · rfl
    · exact ih v hv
theorem SField.c0Q (e : SField) : e.c[0]? = some (.string e.f0) := rfl
theorem SField.c1Q (e : SField) : e.c[1]? = some (.string e.f1) := rfl
theorem rcF_ofQ (RL : List SField) (zs : List Value) (hl : zs.length = RL.length * 2) (hz : ∀ j, j < RL.length → ∀ f, f < 2 → zs[j * 2 + f]? = ((SField.L RL).getD j [])[f]?) : zs = rcQ RL := by
  apply List.ext_getElem?
  intro i
  by_cases h : i < RL.length * 2
  · obtain ⟨j, hj⟩ : ∃ j, i = j * 2 ∨ i = j * 2 + 1 := ⟨i / 2, by omega⟩
    rcases hj with rfl | rfl
    · have := hz j (by omega) 0 (by decide)
      rw [SField.at RL j (by omega)] at this
      rw [rc_get0FQ _ j (by omega)]
      exact this
    · have := hz j (by omega) 1 (by decide)
      rw [SField.at RL j (by omega)] at this
      rw [rc_get1FQ _ j (by omega)]
      exact this
  · rw [List.getElem?_eq_none (by omega), List.getElem?_eq_none (by rw [rc_lengthFQ]; omega)]
theorem GOwns.cellsFQ {w : World} {base : Nat} {v : Value} {R : List SField} (h : GOwns 44 2 w base v (SField.L R)) : w.ownsRow base 44 2 v R.length (rcQ R) := by
  obtain ⟨zs, ho, hz⟩ := h
  have hL : (SField.L R).length = R.length := List.length_map _
  rw [hL] at ho hz
  have e := rcF_ofQ R zs ho.1 hz
  rw [← e]
  exact ho
theorem GOwns.ofFQ {w : World} {base : Nat} {v : Value} {R : List SField} (h : w.ownsRow base 44 2 v R.length (rcQ R)) : GOwns 44 2 w base v (SField.L R) := by
  have hL : (SField.L R).length = R.length := List.length_map _
  refine ⟨rcQ R, by rw [hL]; exact h, fun j hj q hq => ?_⟩
  rw [hL] at hj
  rw [SField.at R j hj]
  obtain rfl | rfl : q = 0 ∨ q = 1 := by omega
  · exact rc_get0FQ R j hj
  · exact rc_get1FQ R j hj
theorem rcF_readQ {w : World} {b off : Nat} {S : List SField} (hc : ∀ j, j < S.length → ∀ f, f < 2 → w.cell? ⟨b, off + (j * 2 + f), none⟩ = ((SField.L S).getD j [])[f]?) (j : Nat) (u : Value) (hj : (rcQ S)[j]? = some u) : w.cell? ((⟨b, off, none⟩ : Addr).add j) = some u := by
  have hl : j < S.length * 2 := by
    have := (List.getElem?_eq_some_iff.1 hj).1
    rw [rc_lengthFQ] at this
    omega
  have hadd : (⟨b, off, none⟩ : Addr).add j = ⟨b, off + j, none⟩ := by unfold Addr.add; split <;> simp_all
  rw [hadd]
  rcases Nat.mod_two_eq_zero_or_one j with e | e
  · obtain ⟨q, rfl⟩ : ∃ q, j = q * 2 := ⟨j / 2, by omega⟩
    have := hc q (by omega) 0 (by decide)
    rw [SField.at S q (by omega)] at this
    rw [rc_get0FQ _ q (by omega)] at hj
    rw [← hj]
    exact this
  · obtain ⟨q, rfl⟩ : ∃ q, j = q * 2 + 1 := ⟨j / 2, by omega⟩
    have := hc q (by omega) 1 (by decide)
    rw [SField.at S q (by omega)] at this
    rw [rc_get1FQ _ q (by omega)] at hj
    rw [← hj]
    exact this
set_option maxRecDepth 20000 in
theorem run_append_fieldsQ {w : World} (tA : TypeId) (htA : Tryd.prog.underlying tA = some (.slice 44)) (ty : TypeId) (base : Nat) (v : Value) (R : List SField) (hown : GOwns 44 2 w base v (SField.L R)) (v2 : Value) (S : List SField) (hrow : GRow 2 w v2 (SField.L S)) (h63 : R.length + S.length ≤ 1099511627776) (hbase : base ≤ w.heap.size) :
    ∃ v' w', (Builtin.append_ #[tA, tA] ty #[v, v2]).run Tryd.prog w = .ok v' w' ∧ GOwns 44 2 w' base v' (SField.L (R ++ S)) ∧ w.grownBy w' v.ownBlock := by
  obtain ⟨i0, hi, hz0, hz1, hz2⟩ := info_parts infoFd3Q
  have hL : (SField.L S).length = S.length := List.length_map _
  by_cases h0 : 0 < S.length
  · obtain ⟨b, off, cap, rfl, hb, hc⟩ := hrow.at' (by rw [hL]; exact h0)
    rw [hL] at hc ⊢
    obtain ⟨v', w', hr, ho', hg, _⟩ := run_append_own (P := Tryd.prog) w base tA ty 44 i0 (.agg #[.string ⟨#[]⟩, .string ⟨#[]⟩]) 2 32 htA hi hz0 hz1 hz2 rfl (by decide) v R.length (rcQ R) hown.cellsFQ ⟨b, off, none⟩ S.length cap (rcQ S) (by rw [rc_lengthFQ]; omega) (fun j u hj => rcF_readQ hc j u hj) (rc_oneFQ S) (by unfold maxLen; omega) (by omega) hbase
    refine ⟨v', w', hr, GOwns.ofFQ ?_, hg⟩
    rw [rc_appendFQ, List.length_append]
    exact ho'
  · have hn : S = [] := List.eq_nil_of_length_eq_zero (by omega)
    subst hn
    obtain ⟨ao, cap, rfl⟩ := hrow.form
    exact ⟨v, w, run_append_owned_zero (P := Tryd.prog) (w := w) base tA ty 44 i0 2 htA hi v R.length (rcQ R) ao cap hown.cellsFQ, by simpa using hown, ⟨rfl, rfl, rfl, Nat.le_refl _, fun _ _ _ => rfl⟩⟩
theorem wpList_append_fieldsQ {w : World} {ops : Array Oper} {rest : List Oper} {o : Oper} {a : Act} {Q : Exit → Act → World → Prop} (hgd : o.guard = none) (p q : Operand) (tA : TypeId) (htA : Tryd.prog.underlying tA = some (.slice 44))
    (ho : o.op = .call { callee := .builtin .append, args := #[p, q], argTypes := #[tA, tA] })
    (base : Nat) (v : Value) (R : List SField) (hp : a.eval p = v) (hown : GOwns 44 2 w base v (SField.L R)) (v2 : Value) (S : List SField) (hq : a.eval q = v2) (hrow : GRow 2 w v2 (SField.L S)) (h63 : R.length + S.length ≤ 1099511627776) (hbase : base ≤ w.heap.size)
    (h : ∀ v' w', GOwns 44 2 w' base v' (SField.L (R ++ S)) → w.grownBy w' v.ownBlock → wpList Tryd.prog ops Q rest (a.put o.dst v') w') :
    wpList Tryd.prog ops Q (o :: rest) a w := by
  obtain ⟨v', w', hr, h2, h3⟩ := run_append_fieldsQ tA htA o.type base v R hown v2 S hrow h63 hbase
  refine wpList_plain hgd fun K hK => ?_
  unfold Oper.wp
  simp [execOp, ho, resolve, invoke, builtin, hp, hq, hr, Result.andThen]
  exact hK _ _ (h v' w' h2 h3)
theorem step_append_fieldsQ {w : World} {ops : Array Oper} {o : Oper} {a : Act} {K : Act → World → Prop} {Q : Exit → Act → World → Prop} {E : Prop} (hgd : o.guard = none) (p q : Operand) (tA : TypeId) (htA : Tryd.prog.underlying tA = some (.slice 44))
    (ho : o.op = .call { callee := .builtin .append, args := #[p, q], argTypes := #[tA, tA] })
    (base : Nat) (v : Value) (R : List SField) (hp : a.eval p = v) (hown : GOwns 44 2 w base v (SField.L R)) (v2 : Value) (S : List SField) (hq : a.eval q = v2) (hrow : GRow 2 w v2 (SField.L S)) (h63 : R.length + S.length ≤ 1099511627776) (hbase : base ≤ w.heap.size)
    (h : ∀ v' w', GOwns 44 2 w' base v' (SField.L (R ++ S)) → w.grownBy w' v.ownBlock → K (a.put o.dst v') w') :
    if Region.wanted o (yielded ops a.tmps) = true then Oper.wp Tryd.prog o a w K Q else E := by
  have hw : Region.wanted o (yielded ops a.tmps) = true := by simp [Region.wanted, hgd]
  rw [if_pos hw]
  obtain ⟨v', w', hr, h2, h3⟩ := run_append_fieldsQ tA htA o.type base v R hown v2 S hrow h63 hbase
  unfold Oper.wp
  simp [execOp, ho, resolve, invoke, builtin, hp, hq, hr, Result.andThen]
  exact h v' w' h2 h3
theorem lit_fieldQ (w : World) (fa fc : ByteArray) : GRow 2 (w.alloc (.cells #[.string fa, .string fc] 44)) (.slice (some ⟨w.heap.size, 0, none⟩) 1 1) (SField.L [⟨fa, fc⟩]) := by
  refine Or.inr ⟨w.heap.size, 0, 1, rfl, by simp, fun j hj f hf => ?_⟩
  obtain rfl : j = 0 := by simpa using hj
  have k := heap_alloc_new w (.cells #[.string fa, .string fc] 44)
  obtain rfl | rfl : f = 0 ∨ f = 1 := by omega
  · exact bk_cell k 0
  · exact bk_cell k 1
end Go.Proofs.YtdjflbanbhhniaaDoor
