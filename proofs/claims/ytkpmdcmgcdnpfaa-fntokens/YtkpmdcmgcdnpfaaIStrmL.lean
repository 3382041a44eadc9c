import Derived.Test.YtkpmdcmgcdnpfaaISum
import Derived.Test.YtkpmdcmgcdnpfaaStrm
import Derived.RangeFuncNested
import Derived.RangeFuncBound
import Derived.RangeFuncCalls
import Derived.RangeFuncLeaves
import Derived.Shelf.Abstract
import Derived.Shelf.RegionOpen
import Derived.OwnWalkIn
import Derived.TacticsInMore
import Derived.LoopNIn
import Derived.LoopIn
namespace Go.Proofs.Ytkpmdcmgcdnpfaa
open Go.RowKit
set_option linter.unusedVariables false

/-- What a round keeps: every block of cells but G. -/
def KpG (G : Nat) (W W' : World) : Prop := W.heap.size ≤ W'.heap.size ∧ ∀ b c t fr, b ≠ G → W.heap[b]? = some (.cells c t fr) → W'.heap[b]? = some (.cells c t fr)
theorem kpG_t {G : Nat} {A B C : World} (h : KpG G A B) (k : KpG G B C) : KpG G A C := ⟨Nat.le_trans h.1 k.1, fun b c t fr hb hc => k.2 b c t fr hb (h.2 b c t fr hb hc)⟩
theorem kpG_b {G : Nat} {w : World} (W : World) (l : Nat) (o o' : Obj) (_ : w.heap.size ≤ l) (h : W.heap[l]? = some o) (hc : o.isCells = false) (_ : o.isWalk = false) : KpG G W (W.putObj l o') := by
  refine ⟨(grownBy_putObj' W l o').size, fun b c t fr hb hcl => ?_⟩
  rw [World.putObj_heap_other]
  · exact hcl
  · rintro rfl
    rw [h] at hcl
    cases hcl
    simp [Obj.isCells] at hc
theorem below_grown {w w' : World} (h : Below w.heap.size w w') : w.grownBy w' none := ⟨h.os, h.tape, h.output, h.size, fun k hk _ => h.block k hk⟩
/-- The stream's byte j. -/
def st (kb nn : List Int) (n j : Nat) : Int := (sblk kb nn ((n + 15) / 16)).getD j 0
theorem sblk_at (kb nn : List Int) (q i : Nat) (hi : i < 16) : ∀ K, q < K → (sblk kb nn K).getD (16 * q + i) 0 = (digV kb (nn ++ be (q : Int) 4)).getD i 0
  | 0, h => by omega
  | K + 1, h => by
    show (sblk kb nn K ++ digV kb (nn ++ be (K : Int) 4)).getD (16 * q + i) 0 = _
    have hl := sblk_length kb nn K
    by_cases hq : q < K
    · rw [← sblk_at kb nn q i hi K hq]
      simp [List.getD, List.getElem?_append_left (show 16 * q + i < (sblk kb nn K).length by omega)]
    · obtain rfl : q = K := by omega
      simp only [List.getD]
      rw [List.getElem?_append_right (by omega), hl, Nat.add_sub_cancel_left]
theorem st_at (kb nn : List Int) (n q i : Nat) (hi : i < 16) (h : 16 * q + i < n) : st kb nn n (16 * q + i) = (digV kb (nn ++ be (q : Int) 4)).getD i 0 := sblk_at kb nn q i hi _ (by omega)
theorem st_byte (kb nn : List Int) (n j : Nat) : 0 ≤ st kb nn n j ∧ st kb nn n j < 256 := (sblk_bytes kb nn _).at j

theorem strm_call {Z : World} {kb nn : List Int} {v3 : Value} {pS pP q : Nat} (hS : Z.heap[pS]? = some (.cells (u8s (kb ++ nn)).toArray 59 (0, 0)))
    (hP : Z.heap[pP]? = some (.cells #[.slice (some ⟨pS, 16, none⟩) 8 8, v3] 22 (0, 0)))
    (h3 : Row Z .u8 v3 (be (q : Int) 4)) (lk : kb.length = 16) (ln : nn.length = 8) (bk : Bytes kb) (bn : Bytes nn) :
    Calls Try.prog 49 #[.slice (some ⟨pS, 0, none⟩) 16 16, .slice (some ⟨pP, 0, none⟩) 2 2] Z fun e w' => e = .returned (.agg (u8s (digV kb (nn ++ be (q : Int) 4))).toArray) ∧ Below Z.heap.size Z w' := by
  have := iparts _ _ kb [nn, be (q : Int) 4] Z (pack_rows hS lk ln).1 bk (by omega) (parts2B hP (pack_rows hS lk ln).2 h3) (bytes_getD2 bn (be_bytes _ _)) (by simp [be_length]; omega) (by simp)
  have ef : [nn, be (q : Int) 4].flatten = nn ++ be (q : Int) 4 := by simp
  rwa [ef] at this

/-- The iterator's own blocks and what it has told. -/
structure ItAt (kb nn : List Int) (n Bn Bs k : Nat) (W wr : World) (J : List (Fin n) → World → Prop) : Prop where
  num : wr.heap[Bn]? = some (.cells #[.int .i64 (n : Int)] 3 (0, 0))
  pack : wr.heap[Bs]? = some (.cells (u8s (kb ++ nn)).toArray 59 (0, 0))
  size : W.heap.size ≤ wr.heap.size
  told : ∃ pre : List (Fin n), pre.length = k ∧ (∀ j : Fin n, j.1 < k → j ∈ pre) ∧ J pre wr
theorem ItAt.below {kb nn : List Int} {n Bn Bs k : Nat} {W wr w' : World} {J : List (Fin n) → World → Prop} (h : ItAt kb nn n Bn Bs k W wr J) (hJ : AbidesFrom W.heap.size J) (hb : Below wr.heap.size wr w') : ItAt kb nn n Bn Bs k W w' J := by
  obtain ⟨pre, h1, h2, h3⟩ := h.told
  exact ⟨(hb.block _ (Array.getElem?_eq_some_iff.1 h.num).1).trans h.num, (hb.block _ (Array.getElem?_eq_some_iff.1 h.pack).1).trans h.pack, Nat.le_trans h.size hb.size, pre, h1, h2, hJ pre wr w' none h3 (below_grown hb) (fun r e => by cases e)⟩

end Go.Proofs.Ytkpmdcmgcdnpfaa
