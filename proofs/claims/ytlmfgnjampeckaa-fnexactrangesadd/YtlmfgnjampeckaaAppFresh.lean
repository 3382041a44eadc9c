import Derived.Test.YtlmfgnjampeckaaAddT
import Derived.Laws.Append
namespace Go.Proofs.Ytlmfgnjampeckaa
open Go.RowKit
set_option linter.unusedVariables false

/-- 'append(l[:f:f], pairs...)': a new row, whatever l. -/
theorem run_append_fresh {w : World} (tS T ty : TypeId) (ht : Try.prog.underlying tS = some (.slice T)) (hinfo : (Try.prog.info? T).map (fun i => (i.zero, i.size, i.bytes)) = some (some (.agg #[.int .i64 0, .int .i64 0]), 2, 16))
    (base g f : Nat) (R : List (Int × Int)) (hf : R.length = f) (hc : ∀ j, j < R.length → w.cell? ⟨g, 0 + j * 2, none⟩ = some (.int .i64 (rlo R j)) ∧ w.cell? ⟨g, 0 + j * 2 + 1, none⟩ = some (.int .i64 (rhi R j)))
    (v2 : Value) (S : List (Int × Int)) (hrow : RRow w v2 S) (h0 : 0 < S.length) (h63 : f + S.length ≤ 1099511627776) (hbase : base ≤ w.heap.size) :
    ∃ v' w', (Builtin.append_ #[tS, tS] ty #[.slice (some ⟨g, 0, none⟩) f f, v2]).run Try.prog w = .ok v' w' ∧ POwns T w' base v' (R ++ S) ∧ w.grownBy w' none := by
  obtain ⟨i, hi, hz, hsize, hby⟩ := info_parts hinfo
  obtain ⟨b, off, cap, rfl, hb, hcs⟩ := hrow.at' h0
  have hl : (pcells S).length = S.length * i.size := by rw [hsize]; exact pcells_length S
  have hlo : (pcells R).length = f * i.size := by rw [hsize, ← hf]; exact pcells_length R
  have hr := run_append_grow (P := Try.prog) w tS ty T i (.agg #[.int .i64 0, .int .i64 0]) ht hi hz ⟨g, 0, none⟩ f f (pcells R) hlo (fun j u hj => pcells_read hc j u hj) ⟨b, off, none⟩ S.length cap (pcells S) hl (fun j u hj => pcells_read hcs j u hj) (by omega) (by omega) (growslice_fits (by omega) (by rw [hby]; omega))
  have hge := grownCap_ge w (f + S.length) f T
  have hcm : grownCap w (f + S.length) f T ≤ maxLen := grownCap_le_maxLen w (f + S.length) f T (by unfold maxLen; omega)
  refine ⟨_, _, hr, POwns.of ⟨?_, .inr ⟨w.heap.size, _, _, by rw [List.length_append, hf], hbase, heap_alloc_new w.drew _, by rw [List.length_append, hf]; exact hge, hcm, ?_, ?_⟩⟩, ⟨rfl, rfl, rfl, by simp, fun k hk _ => Below.heap_alloc w.drew _ k hk⟩⟩
  · exact pcells_length _
  · simp only [Array.size_append, List.size_toArray, size_zeroCells, pcells_length, hf]
    show f * 2 + S.length * 2 + (grownCap w (f + S.length) f T - (f + S.length)) * 2 = _
    omega
  · simp only [Array.toList_append, List.append_assoc]
    rw [← List.append_assoc, ← pcells_append]
    have e : (R ++ S).length * 2 = (pcells (R ++ S)).length := (pcells_length _).symm
    rw [e]
    exact List.take_left
theorem step_append_fresh {w : World} {ops : Array Oper} {o : Oper} {a : Act} {K : Act → World → Prop} {Q : Exit → Act → World → Prop} {E : Prop} (hgd : o.guard = none) (p q : Operand) (tS T : TypeId)
    (ho : o.op = .call { callee := .builtin .append, args := #[p, q], argTypes := #[tS, tS] }) (ht : Try.prog.underlying tS = some (.slice T)) (hinfo : (Try.prog.info? T).map (fun i => (i.zero, i.size, i.bytes)) = some (some (.agg #[.int .i64 0, .int .i64 0]), 2, 16))
    (base g f : Nat) (R : List (Int × Int)) (hp : a.eval p = .slice (some ⟨g, 0, none⟩) f f) (hf : R.length = f) (hc : ∀ j, j < R.length → w.cell? ⟨g, 0 + j * 2, none⟩ = some (.int .i64 (rlo R j)) ∧ w.cell? ⟨g, 0 + j * 2 + 1, none⟩ = some (.int .i64 (rhi R j)))
    (v2 : Value) (S : List (Int × Int)) (hq : a.eval q = v2) (hrow : RRow w v2 S) (h0 : 0 < S.length) (h63 : f + S.length ≤ 1099511627776) (hbase : base ≤ w.heap.size)
    (h : ∀ v' w', POwns T w' base v' (R ++ S) → w.grownBy w' none → K (a.put o.dst v') w') :
    if Region.wanted o (yielded ops a.tmps) = true then Oper.wp Try.prog o a w K Q else E := by
  have hw : Region.wanted o (yielded ops a.tmps) = true := by simp [Region.wanted, hgd]
  rw [if_pos hw]
  obtain ⟨v', w', hr, h2, h3⟩ := run_append_fresh tS T o.type ht hinfo base g f R hf hc v2 S hrow h0 h63 hbase
  unfold Oper.wp
  simp [execOp, ho, resolve, invoke, builtin, hp, hq, hr, Result.andThen]
  exact h v' w' h2 h3
end Go.Proofs.Ytlmfgnjampeckaa
