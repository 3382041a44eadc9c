import Derived.Test.YthjakbpcpfmbjaaSrc4
import Derived.Test.YthjakbpcpfmbjaaXor
namespace Go.Proofs.Ythjakbpcpfmbjaa
open Go.RowKit
set_option linter.unusedVariables false

/-- The source's states behind k drawn bytes; the bytes. -/
def bysS (xs : List Int) (s : St) : Nat → St
  | 0 => s
  | k + 1 => bytS xs (bysS xs s k)
def bysV (xs : List Int) (s : St) (n : Nat) : List Int := (List.range n).map fun k => bytV xs (bysS xs s k)
theorem bysV_length (xs : List Int) (s : St) (n : Nat) : (bysV xs s n).length = n := by simp [bysV]
theorem bysV_succ (xs : List Int) (s : St) (n : Nat) : bysV xs s (n + 1) = bysV xs s n ++ [bytV xs (bysS xs s n)] := by simp [bysV, List.range_succ]
theorem bysS_pos (xs : List Int) (s : St) (k : Nat) : (bysS xs s k).pos = s.pos + k := by
  induction k with
  | zero => simp [bysS]
  | succ k ih => simp only [bysS, bytS_pos, ih]; omega
theorem bysV_bytes (xs : List Int) (s : St) (n : Nat) (h : Bytes xs) : Bytes (bysV xs s n) := by
  intro x hx
  obtain ⟨j, _, rfl⟩ := List.mem_map.1 hx
  exact bytV_bd xs _ h

theorem src_pushB {w wr w1 w2 : World} {g k : Nat} {c v : Value} {xs : List Int} {s s' : St} {o : Obj} (hlow : Low w.heap.size c) (hgl : g < w.heap.size)
    (hown : wr.ownsRow w.heap.size 5 1 v k ((bysV xs s k).map (Value.int .u8))) (hg : w.grownBy wr (some g)) (hg1 : wr.grownBy w1 (some g)) (hd1 : Drw w1 g c xs s') (hgrow : (w1.alloc o).grownBy w2 v.ownBlock) :
    Drw w2 g c xs s' ∧ w.grownBy w2 (some g) := by
  have hr : ∀ j, v.ownBlock = some j → w.heap.size ≤ j := fun j hj => (hown.lt j hj).1
  refine ⟨?_, ?_⟩
  · refine (drw_alloc hd1 o).kept hgrow (fun e => by have := hr g e.symm; omega) (fun b off n cap h0 e e' => ?_)
    have h1 := hlow b off n cap h0 e
    have h2 := hr b e'.symm
    omega
  · exact grown_own (grown_trans (grown_trans hg hg1) (World.grownBy_alloc w1 o (some g))) hgrow hr

end Go.Proofs.Ythjakbpcpfmbjaa
