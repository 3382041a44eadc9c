import Derived.Test.YtpdclbfjngmppaaDoorFbSendObs
namespace Go.Proofs.YtpdclbfjngmppaaDoor
open Go.RowKit
set_option linter.unusedVariables false

/-- What markSendObsS writes into one that begins at q. -/
def SSendObs.mq (q : Int) (e : SSendObs) : SSendObs := ⟨q, q + 1, q + 2, marks (q + 3) e.d.length, ((q + 3 + (e.d.length : Int)) % 3 == 0), ((q + 4 + (e.d.length : Int)) % 3 == 0), ((q + 5 + (e.d.length : Int)) % 3 == 0)⟩
def marksSendObs (q : Int) (L : List SSendObs) : List SSendObs := (List.range L.length).map fun j => (L.getD j default).mq (q + (sumB 6 SSendObs.d L j : Int))
theorem marksSendObs_length (q : Int) (L : List SSendObs) : (marksSendObs q L).length = L.length := by simp [marksSendObs]
theorem marksSendObs_at (q : Int) (L : List SSendObs) (j : Nat) (h : j < L.length) : (marksSendObs q L).getD j default = (L.getD j default).mq (q + (sumB 6 SSendObs.d L j : Int)) := by simp [marksSendObs, List.getD, h]
end Go.Proofs.YtpdclbfjngmppaaDoor
