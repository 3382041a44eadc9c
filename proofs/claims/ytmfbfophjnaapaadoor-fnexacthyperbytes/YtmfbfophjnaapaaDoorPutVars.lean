import Derived.Test.YtmfbfophjnaapaaDoorSpecPut
namespace Go.Proofs.YtmfbfophjnaapaaDoor
open Go.RowKit
set_option linter.unusedVariables false

/-- A number that a variable integer holds. -/
def okv (v : Int) : Prop := 0 ≤ v ∧ v ≤ 4611686018427387903
theorem vsize_bd (v : Int) (h : okv v) : 1 ≤ (vsize v).toNat ∧ (vsize v).toNat ≤ 8 := by
  obtain ⟨h0, h1⟩ := h
  unfold vsize
  rw [if_neg (by omega)]
  split <;> (try split) <;> (try split) <;> (try split) <;> omega
theorem putv_length (v : Int) : (putv v).length = (vsize v).toNat := by unfold putv; rw [List.length_set, be_length]

/-- The bytes of a list, of its first k numbers. -/
def cat (xs : List Int) (k : Nat) : List Int := putv xs.length ++ (xs.take k).flatMap putv
theorem cat_succ (xs : List Int) (k : Nat) (h : k < xs.length) : cat xs (k + 1) = cat xs k ++ putv (xs.getD k 0) := by
  have e : xs.getD k 0 = xs[k] := by simp [List.getD, h]
  unfold cat
  rw [e, List.take_succ_eq_append_getElem h, List.flatMap_append, List.append_assoc]
  simp
theorem cat_length (xs : List Int) (k : Nat) (hn : okv xs.length) (h : k ≤ xs.length) (hok : ∀ j, j < k → okv (xs.getD j 0)) : (cat xs k).length ≤ 8 * (k + 1) := by
  induction k with
  | zero =>
    unfold cat
    simp only [List.take_zero, List.flatMap_nil, List.append_nil, putv_length]
    have := vsize_bd _ hn
    omega
  | succ k ih =>
    have h1 := ih (by omega) (fun j hj => hok j (by omega))
    have h2 := vsize_bd _ (hok k (by omega))
    rw [cat_succ xs k (by omega), List.length_append, putv_length]
    omega

/-- What one append of the loop does. -/
theorem cat_step {w wr w1 w2 : World} {v v' : Value} {ys zs : List Int} {m : Nat} (hm : zs.length = m) (hown : wr.ownsRow w.heap.size 5 1 v ys.length (ys.map (Value.int .u8))) (hb : Below w.heap.size w wr) (hb1 : Below wr.heap.size wr w1)
    (hown' : w2.ownsRow w.heap.size 5 1 v' (ys.length + m) (ys.map (Value.int .u8) ++ zs.map (Value.int .u8))) (hgrow : w1.grownBy w2 v.ownBlock) :
    w2.ownsRow w.heap.size 5 1 v' (ys ++ zs).length ((ys ++ zs).map (Value.int .u8)) ∧ Below w.heap.size w w2 := by
  refine ⟨by rw [List.length_append, List.map_append, hm]; exact hown', ?_⟩
  refine (hb.trans (hb1.mono hb.size)).grown hgrow (Nat.le_trans hb.size hb1.size) ?_
  intro k hk
  exact (hown.lt k hk).1
theorem one_cells (zs : List Int) (k : IntKind) : ∀ u, u ∈ zs.map (Value.int k) → u.oneCell' = true := by
  intro u hu
  obtain ⟨z, _, rfl⟩ := List.mem_map.1 hu
  rfl
theorem piece_cells {w : World} {base e g m cap : Nat} {zs : List Int} (h : w.ownsRow base e 1 (.slice (some ⟨g, 0, none⟩) m cap) m (zs.map (Value.int .u8))) :
    ∀ (j : Nat) (u : Value), (zs.map (Value.int .u8))[j]? = some u → w.cell? ((⟨g, 0, none⟩ : Addr).add j) = some u := by
  intro j u hj
  have hl : (zs.map (Value.int .u8)).length = m * 1 := h.1
  have hlt : j < m * 1 := by
    rw [← hl]
    exact (List.getElem?_eq_some_iff.1 hj).1
  have := h.cellAt j hlt
  rw [Go.WideShapes.add_plain, Nat.zero_add, this]
  exact hj

end Go.Proofs.YtmfbfophjnaapaaDoor
