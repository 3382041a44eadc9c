import Derived.Test.YtdommkpeilmdnaaDoorChV
import Derived.Maps.OwnSet
namespace Go.Proofs.YtdommkpeilmdnaaDoor
open Go.RowKit Go.Maps
set_option linter.unusedVariables false
set_option linter.unusedSimpArgs false

/-- As many as were counted: none was left out. -/
theorem cnt_allZ (c : Nat → Bool) (z : Nat → Nat) (h0 : z 0 = 0) : ∀ n, (∀ k, k < n → z (k + 1) = if c k then z k else z k + 1) → z n ≤ n ∧ (z n = n ↔ ∀ k, k < n → c k = false)
  | 0, _ => ⟨by omega, ⟨fun _ k hk => by omega, fun _ => h0⟩⟩
  | n + 1, hs => by
    obtain ⟨h1, h2⟩ := cnt_allZ c z h0 n (fun k hk => hs k (by omega))
    have h3 := hs n (by omega)
    cases hc : c n with
    | true =>
      rw [hc, if_pos rfl] at h3
      refine ⟨by omega, ⟨fun e => by omega, fun e => ?_⟩⟩
      have := e n (by omega)
      rw [hc] at this; cases this
    | false =>
      rw [hc] at h3
      simp only [Bool.false_eq_true, if_false] at h3
      refine ⟨by omega, ⟨fun e k hk => ?_, fun e => ?_⟩⟩
      · by_cases hk2 : k < n
        · exact h2.1 (by omega) k hk2
        · obtain rfl : k = n := by omega
          exact hc
      · have := h2.2 (fun k hk => e k (by omega)); omega
/-- A set of the first k of a list of keys, and how great it is. -/
theorem size_stepZ (u : DataW Unit) (L : List Lit) (hL : ∀ x ∈ L, WideAt.IsKeyLit x) (k : Nat) (hk : k < L.length) : Maps.size (Maps.setOf u (L.take (k + 1))) = if (L.take k).any (fun y => y.sameKey (L[k])) then Maps.size (Maps.setOf u (L.take k)) else Maps.size (Maps.setOf u (L.take k)) + 1 := by
  have ht : ∀ x ∈ L.take k, WideAt.IsKeyLit x := fun x hx => hL x (List.mem_of_mem_take hx)
  rw [List.take_add_one, List.getElem?_eq_getElem hk]
  show Maps.size (Maps.setOf u (L.take k ++ [L[k]])) = _
  rw [setOf_snoc, size_put (tidy_setOf u _ ht), has_setOf u _ _ ht]
theorem size_allZ (u : DataW Unit) (L : List Lit) (hL : ∀ x ∈ L, WideAt.IsKeyLit x) : (Maps.size (Maps.setOf u L) = L.length) ↔ ∀ k, (hk : k < L.length) → (L.take k).any (fun y => y.sameKey (L[k])) = false := by
  have h := cnt_allZ (fun k => if hk : k < L.length then (L.take k).any (fun y => y.sameKey (L[k])) else false) (fun k => Maps.size (Maps.setOf u (L.take k))) rfl L.length (fun k hk => by
    rw [size_stepZ u L hL k hk]
    simp only [dif_pos hk])
  rw [List.take_length] at h
  rw [h.2]
  constructor
  · intro q k hk
    have := q k hk
    rwa [dif_pos hk] at this
  · intro q k hk
    rw [dif_pos hk]
    exact q k hk
theorem Sd_sizeZ (V : List Int) : (Maps.size (Sd V V.length) = V.length) ↔ ∀ i, i < V.length → ∀ k, k < i → V.getD k 0 ≠ V.getD i 0 := by
  unfold Sd
  rw [List.take_length]
  have h := size_allZ (.agg []) (V.map (Lit.int .i64)) (fun x hx => by obtain ⟨_, _, rfl⟩ := List.mem_map.1 hx; trivial)
  have hl : (V.map (Lit.int .i64)).length = V.length := List.length_map ..
  have key : ∀ k, (hk : k < V.length) → (((V.map (Lit.int .i64)).take k).any (fun y => y.sameKey ((V.map (Lit.int .i64))[k]'(by simpa using hk))) = false ↔ ∀ j, j < k → V.getD j 0 ≠ V.getD k 0) := fun k hk => by
    rw [List.any_eq_false]
    constructor
    · intro q j hj e
      have hm : Lit.int .i64 (V.getD j 0) ∈ (V.map (Lit.int .i64)).take k := by
        rw [List.mem_iff_getElem]
        refine ⟨j, by simp; omega, ?_⟩
        simp [List.getD, show j < V.length by omega]
      have := q _ hm
      apply this
      rw [List.getElem_map]
      show decide (IntKind.i64 = IntKind.i64 ∧ V.getD j 0 = V[k]) = true
      rw [e, List.getD, List.getElem?_eq_getElem hk, Option.getD_some]
      simp
    · intro q x hx hs
      obtain ⟨j, hj, e⟩ := List.mem_iff_getElem.1 hx
      have hj' : j < k := by simp at hj; omega
      rw [List.getElem_take, List.getElem_map] at e
      rw [← e, List.getElem_map] at hs
      have hs' : decide (IntKind.i64 = IntKind.i64 ∧ V[j] = V[k]) = true := hs
      rw [decide_eq_true_eq] at hs'
      apply q j hj'
      simp only [List.getD, List.getElem?_eq_getElem hk, List.getElem?_eq_getElem (show j < V.length by omega), Option.getD_some]
      exact hs'.2
  constructor
  · intro q i hi
    exact (key i hi).1 (h.1 (by rw [hl]; exact q) i (by rw [hl]; exact hi))
  · intro q
    have t := h.2 (fun i hi => (key i (by rw [← hl]; exact hi)).2 (q i (by rw [← hl]; exact hi)))
    rw [hl] at t
    exact t
end Go.Proofs.YtdommkpeilmdnaaDoor
