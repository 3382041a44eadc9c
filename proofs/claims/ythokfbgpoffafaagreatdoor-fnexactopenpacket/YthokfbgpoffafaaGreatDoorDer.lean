import Derived.Test.YthokfbgpoffafaaGreatDoorDig
import Derived.Laws.IdiomStrings
import Derived.ArgAppend
namespace Go.Proofs.YthokfbgpoffafaaGreatDoor
open Go.RowKit
set_option linter.unusedVariables false

/-- A text's bytes. -/
def lab (s : ByteArray) : List Int := s.data.toList.map fun b => (b.toNat : Int)
theorem lab_length (s : ByteArray) : (lab s).length = s.size := by unfold lab; rw [List.length_map, Array.length_toList]; rfl
theorem lab_bytes (s : ByteArray) : Bytes (lab s) := by
  intro x hx
  obtain ⟨b, _, rfl⟩ := List.mem_map.1 hx
  have := b.toNat_lt
  omega
/-- The first k blocks that are derived. -/
def blk (ss ls : List Int) : Nat → List Int
  | 0 => []
  | k + 1 => blk ss ls k ++ digV ss (ls ++ [(k : Int)])
theorem blk_length (ss ls : List Int) (k : Nat) : (blk ss ls k).length = 16 * k := by
  induction k with
  | zero => rfl
  | succ k ih => simp [blk, ih, digV_length]; omega
theorem blk_bytes (ss ls : List Int) (k : Nat) : Bytes (blk ss ls k) := by
  induction k with
  | zero => intro x hx; simp [blk] at hx
  | succ k ih => exact bytes_append ih (digV_bytes _ _)
theorem blk_take (ss ls : List Int) (n k m : Nat) (h : n ≤ 16 * k) : (blk ss ls (k + m)).take n = (blk ss ls k).take n := by
  induction m with
  | zero => rfl
  | succ m ih =>
    rw [← ih, ← Nat.add_assoc]
    show (blk ss ls (k + m) ++ _).take n = _
    rw [List.take_append_of_le_length (by rw [blk_length]; omega)]
def drvV (ss ls : List Int) (n : Nat) : List Int := (blk ss ls 4).take n
theorem drvV_length (ss ls : List Int) (n : Nat) (h : n ≤ 64) : (drvV ss ls n).length = n := by simp [drvV, blk_length]; omega
theorem drvV_bytes (ss ls : List Int) (n : Nat) : Bytes (drvV ss ls n) := fun x hx => blk_bytes ss ls 4 x (List.mem_of_mem_take hx)

theorem bytesRow_size (s : ByteArray) (C : Nat) (h : s.size ≤ C) : (bytesRow s C).size = C := by
  unfold bytesRow
  rw [Array.size_append, Array.size_map, Array.size_replicate]
  have : s.data.size = s.size := rfl
  omega
theorem lab_at (s : ByteArray) (C j : Nat) (hj : j < s.size) : (bytesRow s C)[j]? = some (.int .u8 ((lab s).getD j 0)) := by
  have hd : j < s.data.size := hj
  rw [bytesRow_at s C j hd]
  simp only [lab, List.getD, List.getElem?_map]
  rw [List.getElem?_eq_getElem (by simpa using hd)]
  simp

/-- 'append([]byte(label), x)': whatever room there is, the answer reads as the label's bytes and x. -/
theorem wpList_append_lab {ops : Array Oper} {rest : List Oper} {o : Oper} {a : Act} {Q : Exit → Act → World → Prop} (wr : World) (s : ByteArray) (C : Nat) (x : Int) (i0 : TypeInfo)
    (hgd : o.guard = none) (p q : Operand) (ho : o.op = .call { callee := .builtin .append, args := #[p, q], argTypes := #[22, 22] })
    (hi : Tryz.prog.info? 5 = some i0) (hz0 : i0.zero = some (.int .u8 0)) (hz1 : i0.size = 1) (hz2 : i0.bytes = 1)
    (hp : a.eval p = .slice (some ⟨wr.heap.size, 0, none⟩) s.size C) (hq : a.eval q = .slice (some ⟨wr.heap.size + 1, 0, none⟩) 1 1)
    (hs : s.size ≤ 4096) (hC : s.size ≤ C) (hC1 : C ≤ maxLen)
    (h : ∀ v' w', Row w' .u8 v' (lab s ++ [x]) → Below wr.heap.size wr w' → wpList Tryz.prog ops Q rest (a.put o.dst v') w') :
    wpList Tryz.prog ops Q (o :: rest) a ((wr.alloc (.cells (bytesRow s C) 5 ((bytesRow s C).size, (bytesRow s C).size + 1))).alloc (.cells #[.int .u8 x] 5)).drew := by
  obtain ⟨W, eW⟩ : ∃ W, W = ((wr.alloc (.cells (bytesRow s C) 5 ((bytesRow s C).size, (bytesRow s C).size + 1))).alloc (.cells #[.int .u8 x] 5)).drew := ⟨_, rfl⟩
  have hb0 : W.heap[wr.heap.size]? = some (.cells (bytesRow s C) 5 ((bytesRow s C).size, (bytesRow s C).size + 1)) := by rw [eW]; exact (two_newS wr _ _).1
  have hb1 : W.heap[wr.heap.size + 1]? = some (.cells #[.int .u8 x] 5 (0, 0)) := by rw [eW]; exact (two_newS wr _ _).2
  have hbel : Below wr.heap.size wr W := by
    have := ((Below.refl wr.heap.size wr).alloc (Nat.le_refl _) (.cells (bytesRow s C) 5 ((bytesRow s C).size, (bytesRow s C).size + 1))).alloc (by simp) (.cells #[.int .u8 x] 5)
    rw [eW]
    exact ⟨this.os, this.tape, this.output, this.size, this.block⟩
  rw [← eW]
  have hsz := bytesRow_size s C hC
  have c0 : ∀ j, j < s.size → W.cell? ⟨wr.heap.size, j, none⟩ = some (.int .u8 ((lab s).getD j 0)) := fun j hj => by rw [blkS_cell hb0]; exact lab_at s C j hj
  have cx : W.cell? ⟨wr.heap.size + 1, 0, none⟩ = some (.int .u8 x) := by rw [blkS_cell hb1]; rfl
  have hll : (lab s ++ [x]).length = s.size + 1 := by rw [List.length_append, lab_length]; rfl
  refine wpList_append_arg W hgd p q 22 ho 5 i0 (.int .u8 0) 1 1 Tryz.underlying22 hi hz0 hz1 hz2 rfl (by decide) wr.heap.size 0 s.size C ((lab s).map (Value.int .u8)) hp (by rw [List.length_map, lab_length]; omega) ?_ ⟨wr.heap.size + 1, 0, none⟩ 1 1 [.int .u8 x] hq rfl ?_ ?_ ?_ (by unfold maxLen; omega) (by omega) ?_ ?_
  · intro j u hj
    rw [List.getElem?_map] at hj
    have hlt : j < s.size := by
      rw [← lab_length s]
      cases hc : (lab s)[j]? with
      | none => rw [hc] at hj; simp at hj
      | some y => exact (List.getElem?_eq_some_iff.1 hc).1
    rw [Nat.zero_add, c0 j hlt]
    rw [List.getElem?_eq_getElem (by rw [lab_length]; exact hlt)] at hj
    simp only [Option.map_some, Option.some.injEq] at hj
    rw [← hj]
    simp [List.getD, lab_length, hlt]
  · intro j u hj
    match j, hj with
    | 0, hj => simp at hj; subst hj; rw [Go.WideShapes.add_plain]; exact cx
  · intro u hu
    simp at hu
    subst hu
    rfl
  · intro hroom j hj
    have hj0 : j = 0 := by simpa using hj
    subst hj0
    constructor
    · rw [blkS_cell hb0]
      rw [Array.getElem?_eq_getElem (by rw [hsz]; omega)]
      rfl
    · have : decide ((bytesRow s C).size ≤ 0 + s.size * 1 + 0) = false := by rw [hsz]; simp; omega
      simp only [World.frozen?, hb0, this, Bool.false_and]
  · intro hroom
    have e : W.setCells wr.heap.size (0 + s.size * 1) [.int .u8 x] = W.setCell ⟨wr.heap.size, s.size, none⟩ (.int .u8 x) := by
      rw [show 0 + s.size * 1 = s.size by omega]
      rfl
    rw [e]
    refine h _ _ ?_ (hbel.setCell (Nat.le_refl _) _)
    refine Or.inr ⟨wr.heap.size, 0, C, by rw [hll], ?_, by rw [hll]; exact ⟨hroom, hC1⟩, fun j hj => ?_⟩
    · have : wr.heap.size < W.heap.size := (Array.getElem?_eq_some_iff.1 hb0).1
      simpa [World.setCell] using this
    · rw [hll] at hj
      rw [Nat.zero_add, blkS_cell (blkS_setCell hb0 s.size (.int .u8 x))]
      rw [Array.getElem?_setIfInBounds]
      by_cases e : s.size = j
      · subst e
        rw [if_pos rfl, if_pos (by rw [hsz]; omega)]
        simp [List.getD, ← lab_length s]
      · rw [if_neg e, lab_at s C j (by omega)]
        have : j < (lab s).length := by rw [lab_length]; omega
        simp [List.getD, List.getElem?_append_left this]
  · intro hgr v' w' hown hg
    refine h v' w' ?_ ⟨hg.os.trans hbel.os, hg.tape.trans hbel.tape, hg.output.trans hbel.output, Nat.le_trans hbel.size hg.size, fun k hk => (hg.block k (Nat.lt_of_lt_of_le hk hbel.size) (by simp)).trans (hbel.block k hk)⟩
    have : w'.ownsRow W.heap.size 5 1 v' (s.size + 1) ((lab s ++ [x]).map (Value.int .u8)) := by rw [List.map_append]; exact hown
    exact row_of_owns this

/-- What Derive answers. -/
def derV (ss : List Int) (s : ByteArray) (n : Int) : List Int := if ss.length = 16 ∧ s.size ≤ 32 ∧ 1 ≤ n ∧ n ≤ 64 then drvV ss (lab s) n.toNat else []
theorem derV_bytes (ss : List Int) (s : ByteArray) (n : Int) : Bytes (derV ss s n) := by
  unfold derV
  split
  · exact drvV_bytes _ _ _
  · intro x hx; cases hx
theorem derV_length (ss : List Int) (s : ByteArray) (n : Int) : (derV ss s n).length ≤ 64 := by
  unfold derV
  split
  · rw [drvV_length _ _ _ (by omega)]; omega
  · simp
end Go.Proofs.YthokfbgpoffafaaGreatDoor
