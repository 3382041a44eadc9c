import Derived.Test.YtocinjcbkolnhaaTcT
namespace Go.Proofs.Ytocinjcbkolnhaa
open Go.RowKit
set_option linter.unusedVariables false

theorem fullI (G R base f : Nat) (mo ca ad cost : Int) (RL : List SField) (w : World) (ot : OT w G R base f mo ca ad cost RL) :
    Calls Try.prog 30 #[.pointer (some ⟨G, 0, none⟩)] w fun e w' => e = .returned (.bool (ad == 4611686018427387902)) ∧ Below w.heap.size w w' := by
  obtain ⟨t0, t1, t2, t3, t4, t5⟩ := ot.cells
  clear ot
  go_enter Try.func30, Try.ntmps30
  go_wp2
  go_ret
  exact ⟨rfl, Below.refl _ _⟩
theorem OT.setAdd {w : World} {G R base : Nat} {f mo ca ad cost : Int} {RL : List SField} (h : OT w G R base f mo ca ad cost RL) (x : Int) :
    OT (w.setCell ⟨G, 4, none⟩ (.int .i64 x)) G R base f mo ca x cost RL :=
  ⟨by rw [bk_set h.blk 4 _]; rfl, GOwns.only (Only.setCell (w := w) ⟨G, 4, none⟩ _) h.row (fun k hk e => by have e1 : R = k := Option.some.inj hk; have e2 : k = G := Option.some.inj e; exact h.ne (e1.trans e2)), h.len, h.ne⟩
theorem RingHas.more {RL L : List SField} {f n : Nat} (h : RingHas RL f L n) (hl : RL.length = 124) (en : L.length = n) (hn : n < 124) (x : SField) : RingHas (RL.set ((f + n) % 124) x) f (L ++ [x]) (n + 1) := by
  have h1 : RingHas RL f (L ++ [x]) n := fun j hj => by
    rw [h j hj]
    simp [List.getD, List.getElem?_append_left (show j < L.length by omega)]
  have h2 := h1.put hl hn (by simp; omega)
  have e : (L ++ [x]).getD n default = x := by simp [List.getD, ← en]
  rw [e] at h2
  exact h2
end Go.Proofs.Ytocinjcbkolnhaa
