import Derived.Test.YthjakbpcpfmbjaaAppRow
import Derived.Test.YthjakbpcpfmbjaaVals
import Derived.BigRegion
namespace Go.Proofs.Ythjakbpcpfmbjaa
open Go.RowKit
set_option linter.unusedVariables false

/-- The first k bytes of xs with ys laid over them. -/
def xl (xs ys : List Int) (k : Nat) : List Int := (List.range k).map fun j => bits .xor .u8 (xs.getD j 0) (ys.getD j 0)
theorem xl_length (xs ys : List Int) (k : Nat) : (xl xs ys k).length = k := by simp [xl]
theorem xl_succ (xs ys : List Int) (k : Nat) : xl xs ys (k + 1) = xl xs ys k ++ [bits .xor .u8 (xs.getD k 0) (ys.getD k 0)] := by simp [xl, List.range_succ]
theorem xor8_bd (x y : Int) : 0 ≤ bits .xor .u8 x y ∧ bits .xor .u8 x y < 256 := by
  have h : bits .xor .u8 x y = IntKind.u8.wrap ((BitVec.ofInt 8 x ^^^ BitVec.ofInt 8 y).toNat : Int) := rfl
  rw [h]
  simp [IntKind.wrap, IntKind.bits, IntKind.signed]
  omega
theorem xl_bytes (xs ys : List Int) (k : Nat) : Bytes (xl xs ys k) := by
  intro x hx
  obtain ⟨j, _, rfl⟩ := List.mem_map.1 hx
  exact xor8_bd _ _
theorem one_byte (w : World) (x : Int) : Row (w.alloc (.cells #[.int .u8 x] 5)) .u8 (.slice (some ⟨w.heap.size, 0, none⟩) 1 1) [x] := by
  refine Or.inr ⟨w.heap.size, 0, 1, rfl, by simp, ⟨Nat.le_refl _, by unfold maxLen; decide⟩, fun j hj => ?_⟩
  have : j = 0 := by simpa using hj
  subst this
  have := (MapKept.heap_alloc w (.cells #[.int .u8 x] 5)).1
  simp only [World.cell?, this]
  rfl

theorem xor_step {w wr w3 : World} {o : Obj} {v : Value} {n : Nat} {xs : List Value} (ho : wr.ownsRow w.heap.size 5 1 v n xs) (hs : w.heap.size ≤ wr.heap.size) (g : (wr.drew.alloc o).grownBy w3 v.ownBlock) : Below w.heap.size wr w3 := by
  have b1 : Below w.heap.size wr (wr.alloc o) := (Below.refl _ _).alloc hs _
  have b2 : Below w.heap.size wr (wr.drew.alloc o) := ⟨b1.os, b1.tape, b1.output, b1.size, b1.block⟩
  exact b2.grown g (Nat.le_trans hs b2.size) (fun k hk => (ho.lt k hk).1)

end Go.Proofs.Ythjakbpcpfmbjaa
