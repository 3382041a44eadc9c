import Derived.Test.YtjdmknlcjejecaaLongS
import Derived.Test.YtjdmknlcjejecaaDig
import Derived.Test.YtjdmknlcjejecaaHead8
import Derived.Test.YtjdmknlcjejecaaIConcat
import Derived.Lib.SlBytesConst
namespace Go.Proofs.Ytjdmknlcjejecaa
open Go.RowKit
set_option linter.unusedVariables false

def retryK : List Int := [114, 101, 116, 114, 121]
/-- The tag of a retry packet. -/
def retV (o p : List Int) : List Int := (digV retryK (((o.length : Int) :: o) ++ p)).take 8
theorem retV_length (o p : List Int) : (retV o p).length = 8 := by simp [retV, digV_length]
theorem retryK_bytes : Bytes retryK := by intro x hx; simp [retryK] at hx; omega
theorem bytes_cons {x : Int} {xs : List Int} (h0 : 0 ≤ x) (h1 : x < 256) (h : Bytes xs) : Bytes (x :: xs) := by
  intro y hy
  rcases List.mem_cons.1 hy with rfl | hy
  · exact ⟨h0, h1⟩
  · exact h y hy
theorem bytes_app {xs ys : List Int} (h : Bytes xs) (h2 : Bytes ys) : Bytes (xs ++ ys) := by
  intro y hy
  rcases List.mem_append.1 hy with hy | hy
  · exact h y hy
  · exact h2 y hy
theorem cut_cap {w : World} {base g cap n : Nat} {xs : List Value} (h : w.ownsRow base 5 1 (.slice (some ⟨g, 0, none⟩) n cap) n xs) : n ≤ cap ∧ cap ≤ 9223372036854775807 := by
  rcases h.2 with ⟨e, _⟩ | ⟨g', cap', cur, e, _, _, h1, h2, _⟩
  · cases e
  · cases e; unfold maxLen at h2; omega
theorem key_row {W : World} {p : Nat} (h : W.heap[p]? = some (.cells #[.int .u8 114, .int .u8 101, .int .u8 116, .int .u8 114, .int .u8 121] 5 (5, 6))) : Row W .u8 (.slice (some ⟨p, 0, none⟩) 5 5) retryK := by
  refine Or.inr ⟨p, 0, 5, rfl, (Array.getElem?_eq_some_iff.1 h).1, ⟨Nat.le_refl _, by unfold maxLen; decide⟩, fun j hj => ?_⟩
  rw [Nat.zero_add, blkS_cell h]
  rcases (show j = 0 ∨ j = 1 ∨ j = 2 ∨ j = 3 ∨ j = 4 by simp [retryK] at hj; omega) with rfl | rfl | rfl | rfl | rfl <;> rfl
theorem kconst (w : World) (C : Array Value) (n c : Nat) : (convert 22 22 (.slice (some ⟨w.heap.size, 0, none⟩) n c)).run Try.prog (w.alloc (.cells C 5)) = .ok (.slice (some ⟨w.heap.size, 0, none⟩) n c) (w.alloc (.cells C 5 (C.size, C.size + 1))) :=
  Lib.run_convert_bytes_const w 22 5 C n c Try.underlying22 Try.underlying5
end Go.Proofs.Ytjdmknlcjejecaa
