import Derived.Test.YtdjflbanbhhniaaDoorFlField
import Derived.Test.YtdjflbanbhhniaaDoorFdS
namespace Go.Proofs.YtdjflbanbhhniaaDoor
open Go.RowKit
set_option linter.unusedVariables false

/-- What an entry costs, what all do. -/
def cst (f : SField) : Int := 32 + (f.f0.size : Int) + (f.f1.size : Int)
def csts : List SField → Int
  | [] => 0
  | f :: l => cst f + csts l
/-- The bytes of all texts. -/
def txs : List SField → Int
  | [] => 0
  | f :: l => (f.f0.size : Int) + (f.f1.size : Int) + txs l
theorem cst_lo (f : SField) : 32 ≤ cst f := by unfold cst; omega
theorem csts_nn : ∀ L : List SField, 32 * (L.length : Int) ≤ csts L
  | [] => by simp [csts]
  | f :: l => by have := csts_nn l; have := cst_lo f; simp only [csts, List.length_cons]; omega
theorem txs_nn : ∀ L : List SField, 0 ≤ txs L
  | [] => by simp [txs]
  | f :: l => by have := txs_nn l; simp only [txs]; omega
theorem csts_txs : ∀ L : List SField, csts L = 32 * (L.length : Int) + txs L
  | [] => by simp [csts, txs]
  | f :: l => by have := csts_txs l; simp only [csts, txs, cst, List.length_cons]; omega
theorem csts_app : ∀ (L M : List SField), csts (L ++ M) = csts L + csts M
  | [], M => by simp [csts]
  | f :: l, M => by have := csts_app l M; simp only [csts, List.cons_append]; omega
theorem txs_app : ∀ (L M : List SField), txs (L ++ M) = txs L + txs M
  | [], M => by simp [txs]
  | f :: l, M => by have := txs_app l M; simp only [txs, List.cons_append]; omega
theorem take_succ (L : List SField) (k : Nat) (h : k < L.length) : L.take (k + 1) = L.take k ++ [L.getD k default] := by
  rw [List.take_add_one]; simp [List.getD, h]
theorem csts_succ (L : List SField) (k : Nat) (h : k < L.length) : csts (L.take (k + 1)) = csts (L.take k) + cst (L.getD k default) := by
  rw [take_succ L k h, csts_app]; simp [csts]
theorem txs_succ (L : List SField) (k : Nat) (h : k < L.length) : txs (L.take (k + 1)) = txs (L.take k) + ((L.getD k default).f0.size + (L.getD k default).f1.size) := by
  rw [take_succ L k h, txs_app]; simp [txs]
theorem csts_take (L : List SField) (k : Nat) : csts (L.take k) ≤ csts L := by
  have h := csts_app (L.take k) (L.drop k)
  rw [List.take_append_drop] at h
  have := csts_nn (L.drop k)
  omega
theorem txs_take (L : List SField) (k : Nat) : txs (L.take k) ≤ txs L := by
  have h := txs_app (L.take k) (L.drop k)
  rw [List.take_append_drop] at h
  have := txs_nn (L.drop k)
  omega
theorem txs_at (L : List SField) (k : Nat) (h : k < L.length) : ((L.getD k default).f0.size : Int) + (L.getD k default).f1.size ≤ txs L := by
  have h1 := txs_succ L k h
  have h2 := txs_take L (k + 1)
  have h3 := txs_nn (L.take k)
  omega
def fsOK (L : List SField) : Bool := L.all fun f => fOK f.f0 f.f1
theorem fsOK_succ (L : List SField) (k : Nat) (h : k < L.length) : fsOK (L.take (k + 1)) = (fsOK (L.take k) && fOK (L.getD k default).f0 (L.getD k default).f1) := by
  rw [take_succ L k h]; simp [fsOK, List.all_append]
theorem fsOK_no (L : List SField) (k : Nat) (h : k < L.length) (hb : fOK (L.getD k default).f0 (L.getD k default).f1 = false) : fsOK L = false := by
  cases e : fsOK L with
  | false => rfl
  | true =>
    rw [fsOK, List.all_eq_true] at e
    have := e (L.getD k default) (by simp [List.getD, h])
    rw [hb] at this; cases this
/-- A table: Most, Cap, Added, its entries. -/
structure TB where
  mo : Int
  ca : Int
  ad : Int
  es : List SField
def TB.nums (t : TB) : Prop := 0 ≤ t.mo ∧ t.mo ≤ 4096 ∧ 0 ≤ t.ca ∧ t.ca ≤ t.mo ∧ (t.es.length : Int) ≤ t.ad ∧ t.ad ≤ 4611686018427387902
instance (t : TB) : Decidable t.nums := by unfold TB.nums; infer_instance
def tOK (t : TB) : Bool := decide t.nums && fsOK t.es && decide (csts t.es ≤ t.ca)
/-- The two cells of an entry. -/
theorem row_field {w : World} {b off m : Nat} {L : List SField} (hc : ∀ j, j < m → ∀ f, f < 2 → w.cell? ⟨b, off + (j * 2 + f), none⟩ = (L.getD j default).c[f]?) (k : Nat) (hk : k < m) :
    w.cell? ⟨b, off + k * 2, none⟩ = some (.string (L.getD k default).f0) ∧ w.cell? ⟨b, off + k * 2 + 1, none⟩ = some (.string (L.getD k default).f1) := ⟨hc k hk 0 (by decide), hc k hk 1 (by decide)⟩
theorem frow_at {w : World} {v : Value} {L : List SField} (h : GRow 2 w v (SField.L L)) (h0 : 0 < L.length) : ∃ b off cap, v = .slice (some ⟨b, off, none⟩) L.length cap ∧ b < w.heap.size ∧ ∀ j, j < L.length → ∀ f, f < 2 → w.cell? ⟨b, off + (j * 2 + f), none⟩ = (L.getD j default).c[f]? := by
  obtain ⟨b, off, cap, e, hb, hc⟩ := h.at' (by rw [List.length_map]; exact h0)
  rw [List.length_map] at e hc
  exact ⟨b, off, cap, e, hb, fun j hj f hf => by rw [← SField.at L j hj]; exact hc j hj f hf⟩
theorem frow_form {w : World} {v : Value} {L : List SField} (h : GRow 2 w v (SField.L L)) : ∃ ao cap, v = .slice ao L.length cap := by
  obtain ⟨ao, cap, e⟩ := h.form
  rw [List.length_map] at e
  exact ⟨ao, cap, e⟩
end Go.Proofs.YtdjflbanbhhniaaDoor
