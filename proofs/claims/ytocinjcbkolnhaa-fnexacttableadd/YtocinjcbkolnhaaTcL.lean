import Derived.Test.YtocinjcbkolnhaaTcR
namespace Go.Proofs.Ytocinjcbkolnhaa
open Go.RowKit
set_option linter.unusedVariables false

theorem OT.setLim {w : World} {G R base : Nat} {f mo ca ad cost : Int} {RL : List SField} (h : OT w G R base f mo ca ad cost RL) (x : Int) :
    OT (w.setCell ⟨G, 3, none⟩ (.int .i64 x)) G R base f mo x ad cost RL :=
  ⟨by rw [bk_set h.blk 3 _]; rfl, GOwns.only (Only.setCell (w := w) ⟨G, 3, none⟩ _) h.row (fun k hk e => by have e1 : R = k := Option.some.inj hk; have e2 : k = G := Option.some.inj e; exact h.ne (e1.trans e2)), h.len, h.ne⟩
end Go.Proofs.Ytocinjcbkolnhaa
