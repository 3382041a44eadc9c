import Derived.Test.YthjakbpcpfmbjaaFlat
import Derived.Test.YthjakbpcpfmbjaaAppRow
import Derived.Test.YthjakbpcpfmbjaaBlocks
import Derived.Laws.Rows
namespace Go.Proofs.Ythjakbpcpfmbjaa
open Go.RowKit
set_option linter.unusedVariables false

/-- Every row has K cells, each of one cell. -/
def FlatK (K : Nat) (L : List (List Value)) : Prop := ∀ x ∈ L, x.length = K ∧ ∀ v ∈ x, v.oneCell' = true
theorem FlatK.nil (K : Nat) : FlatK K [] := fun x hx => by cases hx
theorem FlatK.append {K : Nat} {A B : List (List Value)} (a : FlatK K A) (b : FlatK K B) : FlatK K (A ++ B) := fun x hx => by
  rcases List.mem_append.1 hx with h | h
  · exact a x h
  · exact b x h
theorem flat_len {K : Nat} : ∀ {L : List (List Value)}, FlatK K L → L.flatten.length = L.length * K
  | [], _ => by simp
  | x :: r, h => by
    have h1 := (h x (List.mem_cons_self ..)).1
    have h2 := flat_len (K := K) (L := r) (fun y hy => h y (List.mem_cons_of_mem _ hy))
    simp only [List.flatten_cons, List.length_append, List.length_cons, h1, h2, Nat.add_mul, Nat.one_mul]
    omega
theorem flat_get {K : Nat} : ∀ {L : List (List Value)}, FlatK K L → ∀ (j f : Nat), j < L.length → f < K → L.flatten[j * K + f]? = (L.getD j [])[f]?
  | [], _, j, f, hj, _ => by simp at hj
  | x :: r, h, 0, f, hj, hf => by
    have h1 := (h x (List.mem_cons_self ..)).1
    simp only [List.flatten_cons, Nat.zero_mul, Nat.zero_add]
    rw [List.getElem?_append_left (by omega)]
    rfl
  | x :: r, h, j + 1, f, hj, hf => by
    have h1 := (h x (List.mem_cons_self ..)).1
    have h2 := flat_get (K := K) (L := r) (fun y hy => h y (List.mem_cons_of_mem _ hy)) j f (by simpa using hj) hf
    simp only [List.flatten_cons]
    rw [List.getElem?_append_right (by rw [h1, Nat.add_mul, Nat.one_mul]; omega), h1, show (j + 1) * K + f - K = j * K + f by rw [Nat.add_mul, Nat.one_mul]; omega, h2]
    rfl
theorem flat_one {K : Nat} {L : List (List Value)} (h : FlatK K L) : ∀ v ∈ L.flatten, v.oneCell' = true := by
  intro v hv
  obtain ⟨x, hx, hvx⟩ := List.mem_flatten.1 hv
  exact (h x hx).2 v hvx
theorem flat_split {K n i : Nat} (hK : 0 < K) (hi : i < n * K) : ∃ j f, i = j * K + f ∧ j < n ∧ f < K :=
  ⟨i / K, i % K, by rw [Nat.mul_comm]; exact (Nat.div_add_mod i K).symm, (Nat.div_lt_iff_lt_mul hK).2 hi, Nat.mod_lt _ hK⟩
theorem flat_of {K : Nat} (hK : 0 < K) {L : List (List Value)} (h : FlatK K L) (zs : List Value) (hl : zs.length = L.length * K) (hz : ∀ j, j < L.length → ∀ f, f < K → zs[j * K + f]? = (L.getD j [])[f]?) : zs = L.flatten := by
  apply List.ext_getElem?
  intro i
  by_cases hi : i < L.length * K
  · obtain ⟨j, f, rfl, hj, hf⟩ := flat_split hK hi
    rw [hz j hj f hf, flat_get h j f hj hf]
  · rw [List.getElem?_eq_none (by omega), List.getElem?_eq_none (by rw [flat_len h]; omega)]
theorem GOwns.flat {T : TypeId} {K : Nat} (hK : 0 < K) {w : World} {base : Nat} {v : Value} {L : List (List Value)} (hL : FlatK K L) (h : GOwns T K w base v L) : w.ownsRow base T K v L.length L.flatten := by
  obtain ⟨zs, ho, hz⟩ := h
  rw [← flat_of hK hL zs ho.1 hz]
  exact ho
theorem GOwns.ofFlat {T : TypeId} {K : Nat} {w : World} {base : Nat} {v : Value} {L : List (List Value)} (hL : FlatK K L) (h : w.ownsRow base T K v L.length L.flatten) : GOwns T K w base v L :=
  ⟨L.flatten, h, fun j hj f hf => flat_get hL j f hj hf⟩
theorem flat_read {K : Nat} (hK : 0 < K) {w : World} {b off : Nat} {S : List (List Value)} (hS : FlatK K S) (hc : ∀ j, j < S.length → ∀ f, f < K → w.cell? ⟨b, off + (j * K + f), none⟩ = (S.getD j [])[f]?) (j : Nat) (u : Value) (hj : S.flatten[j]? = some u) : w.cell? ((⟨b, off, none⟩ : Addr).add j) = some u := by
  have hl : j < S.length * K := by
    have := (List.getElem?_eq_some_iff.1 hj).1
    rw [flat_len hS] at this
    exact this
  have hadd : (⟨b, off, none⟩ : Addr).add j = ⟨b, off + j, none⟩ := by unfold Addr.add; split <;> simp_all
  rw [hadd]
  obtain ⟨q, f, rfl, hq, hf⟩ := flat_split hK hl
  rw [flat_get hS q f hq hf] at hj
  rw [← hj]
  exact hc q hq f hf
set_option maxRecDepth 20000 in
theorem run_append_flat {w : World} (tA ty T : TypeId) (htA : Try.prog.underlying tA = some (.slice T)) (i0 : TypeInfo) (z : Value) (K B : Nat) (hi : Try.prog.info? T = some i0) (hz0 : i0.zero = some z) (hz1 : i0.size = K) (hz2 : i0.bytes = B) (hzc : z.cells.size = K) (hK : 0 < K) (hB : B ≤ 128)
    (base : Nat) (v : Value) (R : List (List Value)) (hR : FlatK K R) (hown : GOwns T K w base v R) (v2 : Value) (S : List (List Value)) (hS : FlatK K S) (hrow : GRow K w v2 S) (h63 : R.length + S.length ≤ 1099511627776) (hbase : base ≤ w.heap.size) :
    ∃ v' w', (Builtin.append_ #[tA, tA] ty #[v, v2]).run Try.prog w = .ok v' w' ∧ GOwns T K w' base v' (R ++ S) ∧ w.grownBy w' v.ownBlock := by
  by_cases h0 : 0 < S.length
  · obtain ⟨b, off, cap, rfl, hb, hc⟩ := hrow.at' h0
    obtain ⟨v', w', hr, ho', hg, _⟩ := run_append_own (P := Try.prog) w base tA ty T i0 z K B htA hi hz0 hz1 hz2 hzc hK v R.length R.flatten (hown.flat hK hR) ⟨b, off, none⟩ S.length cap S.flatten (flat_len hS) (fun j u hj => flat_read hK hS hc j u hj) (flat_one hS) (by unfold maxLen; omega) (Nat.le_trans (Nat.mul_le_mul h63 hB) (by decide)) hbase
    refine ⟨v', w', hr, GOwns.ofFlat (hR.append hS) ?_, hg⟩
    rw [List.flatten_append, List.length_append]
    exact ho'
  · have hn : S = [] := List.eq_nil_of_length_eq_zero (by omega)
    subst hn
    obtain ⟨ao, cap, rfl⟩ := hrow.form
    exact ⟨v, w, run_append_owned_zero (P := Try.prog) (w := w) base tA ty T i0 K htA hi v R.length R.flatten ao cap (hown.flat hK hR), by simpa using hown, ⟨rfl, rfl, rfl, Nat.le_refl _, fun _ _ _ => rfl⟩⟩
theorem wpList_append_flat {w : World} {ops : Array Oper} {rest : List Oper} {o : Oper} {a : Act} {Q : Exit → Act → World → Prop} (hgd : o.guard = none) (p q : Operand) (tA T : TypeId) (htA : Try.prog.underlying tA = some (.slice T)) (z : Value) (K B : Nat) (hinfo : (Try.prog.info? T).map (fun i => (i.zero, i.size, i.bytes)) = some (some z, K, B)) (hzc : z.cells.size = K) (hK : 0 < K) (hB : B ≤ 128)
    (ho : o.op = .call { callee := .builtin .append, args := #[p, q], argTypes := #[tA, tA] })
    (base : Nat) (v : Value) (R : List (List Value)) (hR : FlatK K R) (hp : a.eval p = v) (hown : GOwns T K w base v R) (v2 : Value) (S : List (List Value)) (hS : FlatK K S) (hq : a.eval q = v2) (hrow : GRow K w v2 S) (h63 : R.length + S.length ≤ 1099511627776) (hbase : base ≤ w.heap.size)
    (h : ∀ v' w', GOwns T K w' base v' (R ++ S) → w.grownBy w' v.ownBlock → wpList Try.prog ops Q rest (a.put o.dst v') w') :
    wpList Try.prog ops Q (o :: rest) a w := by
  obtain ⟨i0, hi, hz0, hz1, hz2⟩ := info_parts hinfo
  obtain ⟨v', w', hr, h2, h3⟩ := run_append_flat tA o.type T htA i0 z K B hi hz0 hz1 hz2 hzc hK hB base v R hR hown v2 S hS hrow h63 hbase
  refine wpList_plain hgd fun K hK => ?_
  unfold Oper.wp
  simp [execOp, ho, resolve, invoke, builtin, hp, hq, hr, Result.andThen]
  exact hK _ _ (h v' w' h2 h3)
theorem step_append_flat {w : World} {ops : Array Oper} {o : Oper} {a : Act} {KK : Act → World → Prop} {Q : Exit → Act → World → Prop} {E : Prop} (hgd : o.guard = none) (p q : Operand) (tA T : TypeId) (htA : Try.prog.underlying tA = some (.slice T)) (z : Value) (K B : Nat) (hinfo : (Try.prog.info? T).map (fun i => (i.zero, i.size, i.bytes)) = some (some z, K, B)) (hzc : z.cells.size = K) (hK : 0 < K) (hB : B ≤ 128)
    (ho : o.op = .call { callee := .builtin .append, args := #[p, q], argTypes := #[tA, tA] })
    (base : Nat) (v : Value) (R : List (List Value)) (hR : FlatK K R) (hp : a.eval p = v) (hown : GOwns T K w base v R) (v2 : Value) (S : List (List Value)) (hS : FlatK K S) (hq : a.eval q = v2) (hrow : GRow K w v2 S) (h63 : R.length + S.length ≤ 1099511627776) (hbase : base ≤ w.heap.size)
    (h : ∀ v' w', GOwns T K w' base v' (R ++ S) → w.grownBy w' v.ownBlock → KK (a.put o.dst v') w') :
    if Region.wanted o (yielded ops a.tmps) = true then Oper.wp Try.prog o a w KK Q else E := by
  have hw : Region.wanted o (yielded ops a.tmps) = true := by simp [Region.wanted, hgd]
  rw [if_pos hw]
  obtain ⟨i0, hi, hz0, hz1, hz2⟩ := info_parts hinfo
  obtain ⟨v', w', hr, h2, h3⟩ := run_append_flat tA o.type T htA i0 z K B hi hz0 hz1 hz2 hzc hK hB base v R hR hown v2 S hS hrow h63 hbase
  unfold Oper.wp
  simp [execOp, ho, resolve, invoke, builtin, hp, hq, hr, Result.andThen]
  exact h v' w' h2 h3
/-- A literal of one struct, in a world that has just made it. -/
theorem lit_flat (w : World) (cs : List Value) (T : TypeId) : GRow cs.length (w.alloc (.cells cs.toArray T)) (.slice (some ⟨w.heap.size, 0, none⟩) 1 1) [cs] := by
  refine Or.inr ⟨w.heap.size, 0, 1, rfl, by simp, fun j hj f hf => ?_⟩
  obtain rfl : j = 0 := by simpa using hj
  have k := heap_alloc_new w (.cells cs.toArray T)
  rw [Nat.zero_mul, Nat.zero_add, Nat.zero_add, bk_cell k f]
  simp
theorem GOwns.lit0 (T : TypeId) (K : Nat) (w : World) (base : Nat) (hb : base ≤ w.heap.size) : GOwns T K (w.alloc (.cells #[] T)) base (.slice (some ⟨w.heap.size, 0, none⟩) 0 0) [] :=
  ⟨[], World.ownsRow_lit w #[] 0 hb (by decide) (show (#[] : Array Value).size = 0 * K by simp), fun j hj => by simp at hj⟩
end Go.Proofs.Ythjakbpcpfmbjaa
