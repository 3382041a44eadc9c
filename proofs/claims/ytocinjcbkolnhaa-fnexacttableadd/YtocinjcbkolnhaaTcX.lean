import Derived.Test.YtocinjcbkolnhaaTcW
namespace Go.Proofs.Ytocinjcbkolnhaa
open Go.RowKit
set_option linter.unusedVariables false

theorem T2.nextB {w u u' : World} {a b c : Int} {s : Value} {B : Nat} (h : T2 w u a b c s) (hb : Below B u u') (hB : w.heap.size + 1 < B) : T2 w u' a b c s :=
  ⟨(hb.block _ (by omega)).trans h.1, (hb.block _ hB).trans h.2.1, h.2.2.trans (hb.mono (by omega))⟩
theorem txs_drop (L : List SField) (k : Nat) : txs (L.drop k) ≤ txs L := by
  have h := txs_app (L.take k) (L.drop k)
  rw [List.take_append_drop] at h
  have := txs_nn (L.take k)
  omega
end Go.Proofs.Ytocinjcbkolnhaa
