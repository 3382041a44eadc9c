import Derived.Test.YtkpmdcmgcdnpfaaIOuter
namespace Go.Proofs.Ytkpmdcmgcdnpfaa
open Go.RowKit
set_option linter.unusedVariables false

theorem run_loadVar_part {P : Program} (w : World) (g off n : Nat) (t ty : TypeId) (xs : List Int) (fr : Nat × Nat) (d : TypeDesc) (hg : w.heap[g]? = some (.cells (u8s xs).toArray t fr)) (hn : off + n ≤ xs.length)
    (hu : P.underlying ty = some d) (hd : (match d with | .struct _ | .array _ _ => true | _ => false) = true) (hi : (P.info? ty).map (·.size) = some n) :
    (loadVar ty ⟨g, off, none⟩).run P w = .ok (.agg (u8s ((xs.drop off).take n)).toArray) w := by
  have hlen : (u8s ((xs.drop off).take n)).length = n := by rw [u8s_length, List.length_take, List.length_drop]; omega
  have hl : (loadCells ⟨g, off, none⟩ (u8s ((xs.drop off).take n)).length).run P w = .ok (u8s ((xs.drop off).take n)).toArray w :=
    run_loadCells_list (P := P) w ⟨g, off, none⟩ (u8s ((xs.drop off).take n)) (fun j v hv => by
      have hadd : (⟨g, off, none⟩ : Addr).add j = ⟨g, off + j, none⟩ := by unfold Addr.add; split <;> simp_all
      have hj : j < n := by
        have := (List.getElem?_eq_some_iff.1 hv).1
        omega
      rw [hadd, blkS_cell hg, ← hv]
      simp [u8s, hj])
  rw [hlen] at hl
  cases hq : P.info? ty with
  | none => simp [hq] at hi
  | some i =>
    have hs : i.size = n := by simpa [hq] using hi
    have hagg : (isAgg ty).run P w = .ok true w := by
      unfold isAgg
      rw [Sem.run_bind, run_underlying hu w]
      cases d <;> simp_all
    simp [loadVar, Sem.run_bind, hagg, sizeOf, typeInfo, hq, hs, hl]
theorem wpList_load_part {P : Program} {ops : Array Oper} {rest : List Oper} {o : Oper} {a : Act} {w : World} {Q : Exit → Act → World → Prop} (hgd : o.guard = none) (ty : TypeId) (x : Operand) (ho : o.op = .load ty x)
    (g off n : Nat) (hx : a.eval x = .pointer (some ⟨g, off, none⟩)) (t : TypeId) (xs : List Int) (fr : Nat × Nat) (d : TypeDesc) (hg : w.heap[g]? = some (.cells (u8s xs).toArray t fr)) (hn : off + n ≤ xs.length)
    (hu : P.underlying ty = some d) (hd : (match d with | .struct _ | .array _ _ => true | _ => false) = true) (hi : (P.info? ty).map (·.size) = some n) (ys : List Int) (hy : (xs.drop off).take n = ys)
    (h : wpList P ops Q rest (a.put o.dst (.agg (u8s ys).toArray)) w) : wpList P ops Q (o :: rest) a w := by
  subst hy
  refine wpList_plain hgd fun K hK => ?_
  unfold Oper.wp execOp
  simp only [ho, hx, Instr.loadAt, Instr.sureAddr, Sem.run_bind, Sem.run_pure, Result.andThen_ok, run_loadVar_part w g off n t ty xs fr d hg hn hu hd hi]
  exact hK _ _ h
theorem wpList_store_part {P : Program} {ops : Array Oper} {rest : List Oper} {o : Oper} {a : Act} {w : World} {Q : Exit → Act → World → Prop} (hgd : o.guard = none) (ty : TypeId) (x y : Operand) (ho : o.op = .store ty x y)
    (g off n : Nat) (ys : List Int) (hx : a.eval x = .pointer (some ⟨g, off, none⟩)) (hy : a.eval y = .agg (u8s ys).toArray)
    (t : TypeId) (xs : List Int) (hg : w.heap[g]? = some (.cells (u8s xs).toArray t (0, 0))) (hi : (P.info? ty).map (·.size) = some n) (hn : ys.length = n) (hfit : off + n ≤ xs.length)
    (h : ∀ w', w'.heap[g]? = some (.cells (u8s (splice xs off ys)).toArray t (0, 0)) → Only (some g) w w' → wpList P ops Q rest (a.put o.dst undef) w') : wpList P ops Q (o :: rest) a w := by
  have hl : (u8s ys).length = n := by rw [u8s_length, hn]
  have hst := run_storeCells_at (P := P) g off t (u8s ys) 0 (u8s xs).toArray w hg (by simp [u8s_length]; omega) (u8s_one _)
  refine wpList_plain hgd fun K hK => ?_
  have hrun : (storeVar ty ⟨g, off, none⟩ (.agg (u8s ys).toArray)).run P w = .ok () (w.setRow g ((u8s xs).take (off + 0) ++ u8s ys ++ (u8s xs).drop (off + 0 + (u8s ys).length)).toArray) := by
    cases hq : P.info? ty with
    | none => simp [hq] at hi
    | some i =>
      have hs : i.size = n := by simpa [hq] using hi
      simp [storeVar, sizeOf, typeInfo, hq, hs, Value.cells, hl]
      simpa [hl] using hst
  unfold Oper.wp execOp
  simp only [ho, hx, hy, Instr.storeAt, Instr.sureAddr, Sem.run_bind, Sem.run_pure, Result.andThen_ok, hrun]
  refine hK _ _ (h _ ?_ (only_setRow _ _ _))
  rw [setRow_heap w g _ _ t _ hg, ← splice_u8s]
  simp [splice, List.append_assoc]
theorem infoA16 : (Try.prog.info? 52).map (·.size) = some 16 := by kernel_rfl
theorem infoA8 : (Try.prog.info? 53).map (·.size) = some 8 := by kernel_rfl
end Go.Proofs.Ytkpmdcmgcdnpfaa
