import Derived.Test.YtpdclbfjngmppaaDoorFbSendOp
namespace Go.Proofs.YtpdclbfjngmppaaDoor
open Go.RowKit
set_option linter.unusedVariables false

/-- What markSendOpS writes into one that begins at q. -/
def SSendOp.mq (q : Int) (e : SSendOp) : SSendOp := ⟨q, q + 1, q + 2, marks (q + 3) e.d.length, ((q + 3 + (e.d.length : Int)) % 3 == 0)⟩
def marksSendOp (q : Int) (L : List SSendOp) : List SSendOp := (List.range L.length).map fun j => (L.getD j default).mq (q + (sumB 4 SSendOp.d L j : Int))
theorem marksSendOp_length (q : Int) (L : List SSendOp) : (marksSendOp q L).length = L.length := by simp [marksSendOp]
theorem marksSendOp_at (q : Int) (L : List SSendOp) (j : Nat) (h : j < L.length) : (marksSendOp q L).getD j default = (L.getD j default).mq (q + (sumB 4 SSendOp.d L j : Int)) := by simp [marksSendOp, List.getD, h]
end Go.Proofs.YtpdclbfjngmppaaDoor
