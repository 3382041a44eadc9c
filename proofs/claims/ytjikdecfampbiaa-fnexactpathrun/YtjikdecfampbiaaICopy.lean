import Derived.Test.YtjikdecfampbiaaBook
import Derived.Test.YtjikdecfampbiaaDig
import Derived.Laws.CopyOwn
import Derived.Deep.RegionWith
import Derived.Deep.RegionLaw
import Derived.Deep.CutRange
namespace Go.Proofs.Ytjikdecfampbiaa
open Go.RowKit
set_option linter.unusedVariables false

theorem only_setRow (w : World) (g : Nat) (cs : Array Value) : Only (some g) w (w.setRow g cs) :=
  ⟨rfl, rfl, rfl, by simp [World.setRow], fun k hk => setRow_other w g k cs (fun e => hk (by rw [e]))⟩
theorem Only.drew {g : Option Nat} {w w' : World} (h : Only g w w') : Only g w w'.drew := ⟨h.1, h.2, h.3, h.4, h.5⟩
theorem Only.below {g : Nat} {w w' : World} (h : Only (some g) w w') {B : Nat} (hB : B ≤ g) : Below B w w' :=
  ⟨h.os, h.tape, h.output, Nat.le_of_eq h.size.symm, fun k hk => h.block k (fun e => by cases e; omega)⟩
theorem cell_of_heap {w w' : World} {b : Nat} (h : w'.heap[b]? = w.heap[b]?) (o : Nat) : w'.cell? ⟨b, o, none⟩ = w.cell? ⟨b, o, none⟩ := by
  simp [World.cell?, h]
/-- What was read is read where its block has not turned. -/
theorem Row.only {w w' : World} {g : Nat} {v : Value} {xs : List Int} (h : Row w .u8 v xs) (ho : Only (some g) w w') (hg : v.ownBlock ≠ some g) : Row w' .u8 v xs := by
  rcases h with h | ⟨b, off, cap, rfl, hb, hcap, hc⟩
  · exact Or.inl h
  · exact Or.inr ⟨b, off, cap, rfl, by rw [ho.size]; exact hb, hcap, fun j hj => (cell_of_heap (ho.block b (fun e => hg (by cases e; rfl))) _).trans (hc j hj)⟩
/-- The cells of a reading, as a copy's source. -/
theorem row_src {w : World} {v : Value} {xs : List Int} (h : Row w .u8 v xs) (h0 : 0 < xs.length) (m : Nat) (hm : m ≤ xs.length) :
    ∃ ad cap, v = .slice (some ad) xs.length cap ∧ ∀ j u, ((xs.take m).map (Value.int .u8))[j]? = some u → w.cell? (ad.add j) = some u := by
  obtain ⟨b, off, cap, rfl, hb, hc⟩ := h.at h0
  refine ⟨_, _, rfl, fun j u hu => ?_⟩
  have hadd : (⟨b, off, none⟩ : Addr).add j = ⟨b, off + j, none⟩ := by unfold Addr.add; split <;> simp_all
  rw [hadd]
  have hj : j < m := by
    have := List.getElem?_eq_some_iff.1 hu
    obtain ⟨h1, _⟩ := this
    simp at h1
    omega
  rw [hc j (by omega)]
  rw [← hu]
  simp [List.getD, hj, show j < xs.length by omega]

def u8s (xs : List Int) : List Value := xs.map (Value.int .u8)
theorem u8s_length (xs : List Int) : (u8s xs).length = xs.length := by simp [u8s]
theorem u8s_one (xs : List Int) : ∀ v ∈ u8s xs, v.oneCell' = true := by
  intro v hv
  obtain ⟨x, _, rfl⟩ := List.mem_map.1 hv
  rfl
theorem splice_u8s (xs ys : List Int) (off : Nat) : splice (u8s xs) off (u8s ys) = u8s (splice xs off ys) := by
  simp [splice, u8s]

theorem wpList_copy_at {P : Program} {w : World} {ops : Array Oper} {rest : List Oper} {o : Oper} {a : Act} {Q : Exit → Act → World → Prop} (hgd : o.guard = none) (d s : Operand) (dT sT : TypeId)
    (ho : o.op = .call { callee := .builtin .copy, args := #[d, s], argTypes := #[dT, sT] }) (elem : TypeId) (hu : P.underlying dT = some (.slice elem)) (hsz : (P.info? elem).map (·.size) = some 1)
    (g off dLen dCap : Nat) (vs : Value) (hd : a.eval d = .slice (some ⟨g, off, none⟩) dLen dCap) (hs : a.eval s = vs) (xs : List Int) (hrow : Row w .u8 vs xs) (h0 : 0 < xs.length)
    (cur : List Int) (t : TypeId) (hg : w.heap[g]? = some (.cells (u8s cur).toArray t (0, 0))) (m : Nat) (hm : m = Nat.min xs.length dLen) (hfit : off + m ≤ cur.length)
    (h : ∀ w', w'.heap[g]? = some (.cells (u8s (splice cur off (xs.take m))).toArray t (0, 0)) → Only (some g) w w' → wpList P ops Q rest (a.put o.dst (goInt m)) w') :
    wpList P ops Q (o :: rest) a w := by
  have hml : m ≤ xs.length := by rw [hm]; exact Nat.min_le_left _ _
  obtain ⟨ad, cap, rfl, hsrc⟩ := row_src hrow h0 m hml
  have hl : (u8s (xs.take m)).length = m := by rw [u8s_length, List.length_take]; omega
  refine wpList_copy_own hgd d s dT sT ho elem hu hsz g off dLen dCap ad xs.length cap hd hs (u8s cur).toArray t hg (u8s (xs.take m)) (by rw [hl, hm]) hsrc (by rw [hl]; simpa [u8s_length] using hfit) (u8s_one _) ?_
  rw [hl]
  refine h _ ?_ (only_setRow _ _ _)
  rw [setRow_heap w g _ _ t _ hg, ← splice_u8s]
  simp [splice, hl]

theorem step_copy_at {P : Program} {ops : Array Oper} {o : Oper} {a : Act} {w : World} {K : Act → World → Prop} {Q : Exit → Act → World → Prop} {E : Prop} (hgd : o.guard = none) (d s : Operand) (dT sT : TypeId)
    (ho : o.op = .call { callee := .builtin .copy, args := #[d, s], argTypes := #[dT, sT] }) (elem : TypeId) (hu : P.underlying dT = some (.slice elem)) (hsz : (P.info? elem).map (·.size) = some 1)
    (g off dLen dCap : Nat) (vs : Value) (hd : a.eval d = .slice (some ⟨g, off, none⟩) dLen dCap) (hs : a.eval s = vs) (xs : List Int) (hrow : Row w .u8 vs xs) (h0 : 0 < xs.length)
    (cur : List Int) (t : TypeId) (hg : w.heap[g]? = some (.cells (u8s cur).toArray t (0, 0))) (m : Nat) (hm : m = Nat.min xs.length dLen) (hfit : off + m ≤ cur.length)
    (h : ∀ w', w'.heap[g]? = some (.cells (u8s (splice cur off (xs.take m))).toArray t (0, 0)) → Only (some g) w w' → K (a.put o.dst (goInt m)) w') :
    if Region.wanted o (yielded ops a.tmps) = true then Oper.wp P o a w K Q else E := by
  have hw : Region.wanted o (yielded ops a.tmps) = true := by simp [Region.wanted, hgd]
  rw [if_pos hw]
  have hml : m ≤ xs.length := by rw [hm]; exact Nat.min_le_left _ _
  obtain ⟨ad, cap, rfl, hsrc⟩ := row_src hrow h0 m hml
  have hl : (u8s (xs.take m)).length = m := by rw [u8s_length, List.length_take]; omega
  have hrun := run_copy_row (P := P) w dT sT o.type elem g off dLen dCap ad xs.length cap (u8s cur).toArray t (u8s (xs.take m)) hu hsz hg (by rw [hl, hm]) hsrc (by rw [hl]; simpa [u8s_length] using hfit) (u8s_one _)
  unfold Oper.wp
  simp [execOp, ho, resolve, invoke, builtin, hd, hs, hrun, Result.andThen]
  have := h _ (by rw [setRow_heap w g _ _ t _ hg]) (only_setRow w g (u8s (splice cur off (xs.take m))).toArray)
  rw [← splice_u8s] at this
  have this' : K (a.put o.dst (goInt m)) (w.setRow g (List.take off (u8s cur) ++ (u8s (List.take m xs) ++ List.drop (off + m) (u8s cur))).toArray) := by simpa [splice, hl] using this
  rw [hl]
  exact this'

/-- A whole array or struct stored into a block. -/
theorem wpList_store_at {P : Program} {ops : Array Oper} {rest : List Oper} {o : Oper} {a : Act} {w : World} {Q : Exit → Act → World → Prop} (hgd : o.guard = none) (ty : TypeId) (x y : Operand) (ho : o.op = .store ty x y)
    (g : Nat) (cells : Array Value) (hx : a.eval x = .pointer (some ⟨g, 0, none⟩)) (hy : a.eval y = .agg cells)
    (t : TypeId) (old : Array Value) (hg : w.heap[g]? = some (.cells old t (0, 0))) (hi : (P.info? ty).map (·.size) = some cells.size)
    (hold : old.size = cells.size) (h1 : cells.all (·.oneCell') = true)
    (h : ∀ w', w'.heap[g]? = some (.cells cells t (0, 0)) → Only (some g) w w' → wpList P ops Q rest (a.put o.dst undef) w') : wpList P ops Q (o :: rest) a w :=
  wpList_store_row hgd ty x y ho g cells hx hy t old hg hi hold h1 (h _ (setRow_heap w g old cells t _ hg) (only_setRow w g cells))
theorem u8s_all (xs : List Int) : (u8s xs).toArray.all (·.oneCell') = true := by
  rw [Array.all_eq_true_iff_forall_mem]
  intro v hv
  exact u8s_one xs v (by simpa using hv)
end Go.Proofs.Ytjikdecfampbiaa
