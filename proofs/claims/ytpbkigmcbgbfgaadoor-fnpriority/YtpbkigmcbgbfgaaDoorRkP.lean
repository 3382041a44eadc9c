import Derived.Test.YtpbkigmcbgbfgaaDoorMem
import Derived.Lib.Bytealg
import Derived.Lib.IndexLaws
namespace Go.Proofs.YtpbkigmcbgbfgaaDoor
open Go.RowKit
set_option linter.unusedVariables false

/-- A text of these bytes. -/
def bl (l : List UInt8) : ByteArray := ⟨l.toArray⟩
theorem bl_size (l : List UInt8) : (bl l).size = l.length := by simp [bl, ByteArray.size]
theorem bl_data (l : List UInt8) : (bl l).data.toList = l := by simp [bl]
theorem bl_of (s : ByteArray) : s = bl s.data.toList := by cases s; simp [bl]
theorem bl_ext (l : List UInt8) (i j : Nat) : (bl l).extract i j = bl ((l.drop i).take (j - i)) := by
  apply ByteArray.ext
  rw [ByteArray.data_extract]
  simp [bl]
theorem bl_get (l : List UInt8) (i : Nat) (h : i < (bl l).size) : (bl l)[i]'h = l[i]'(by rw [bl_size] at h; exact h) := by
  simp [bl]
  rfl
theorem bl_eq (l m : List UInt8) : (bl l == bl m) = decide (l = m) := by
  have e1 : (bl l == bl m) = ((bl l).data == (bl m).data) := rfl
  rw [e1]
  by_cases h : l = m
  · subst h; simp
  · rw [decide_eq_false h]
    rw [beq_eq_false_iff_ne]
    intro e
    apply h
    have := congrArg Array.toList e
    simpa [bl] using this
/-- Without the blanks at its front; at its end. -/
def tL : List UInt8 → List UInt8
  | [] => []
  | x :: r => if x = 32 then tL r else x :: r
def tR (l : List UInt8) : List UInt8 := (tL l.reverse).reverse
theorem tL_rep (i : Nat) (l : List UInt8) : tL (List.replicate i 32 ++ l) = tL l := by
  induction i with
  | zero => rfl
  | succ i ih => rw [List.replicate_succ, List.cons_append]; simp only [tL, if_true]; exact ih
theorem tL_dec : ∀ l : List UInt8, ∃ i, l = List.replicate i 32 ++ tL l
  | [] => ⟨0, rfl⟩
  | x :: r => by
    by_cases h : x = 32
    · obtain ⟨i, e⟩ := tL_dec r
      refine ⟨i + 1, ?_⟩
      simp only [tL]
      rw [if_pos h, List.replicate_succ, List.cons_append, ← e, h]
    · exact ⟨0, by simp only [tL]; rw [if_neg h]; rfl⟩
theorem tL_head : ∀ l : List UInt8, tL l = [] ∨ ∃ x r, tL l = x :: r ∧ x ≠ 32
  | [] => Or.inl rfl
  | x :: r => by
    simp only [tL]
    split
    · exact tL_head r
    · rename_i h; exact Or.inr ⟨x, r, rfl, h⟩
theorem tR_rep (i : Nat) (l : List UInt8) : tR (l ++ List.replicate i 32) = tR l := by
  unfold tR
  rw [List.reverse_append, List.reverse_replicate, tL_rep]
theorem tR_last (l : List UInt8) (x : UInt8) (h : x ≠ 32) : tR (l ++ [x]) = l ++ [x] := by
  unfold tR
  rw [List.reverse_append]
  show (tL (x :: l.reverse)).reverse = _
  simp only [tL]
  rw [if_neg h]
  simp
theorem tR_dec (l : List UInt8) : ∃ i, l = tR l ++ List.replicate i 32 := by
  obtain ⟨i, e⟩ := tL_dec l.reverse
  refine ⟨i, ?_⟩
  have := congrArg List.reverse e
  rw [List.reverse_reverse, List.reverse_append, List.reverse_replicate] at this
  exact this
theorem tR_end (l : List UInt8) : tR l = [] ∨ ∃ r x, tR l = r ++ [x] ∧ x ≠ 32 := by
  rcases tL_head l.reverse with h | ⟨x, r, h, hx⟩
  · exact Or.inl (by unfold tR; rw [h]; rfl)
  · exact Or.inr ⟨r.reverse, x, by unfold tR; rw [h]; simp, hx⟩
theorem tR_nil : tR [] = [] := rfl
theorem tL_all (i : Nat) : tL (List.replicate i 32) = [] := by
  have := tL_rep i []
  simpa [tL] using this
theorem tR_all (i : Nat) : tR (List.replicate i 32) = [] := by
  unfold tR; rw [List.reverse_replicate, tL_all]; rfl
/-- Both orders give the same. -/
theorem trim_comm (l : List UInt8) : tL (tR l) = tR (tL l) := by
  obtain ⟨i, hi⟩ := tL_dec l
  obtain ⟨j, hj⟩ := tR_dec (tL l)
  rcases tR_end (tL l) with h0 | ⟨r, x, hx, hn⟩
  · rw [h0] at hj
    rw [List.nil_append] at hj
    have hl : l = List.replicate (i + j) 32 := by rw [hi, hj]; simp
    rw [h0, hl, tR_all]
    rfl
  · rcases tL_head l with h1 | ⟨y, s, hy, hyn⟩
    · rw [h1] at hx; simp [tR_nil] at hx
    · have e : tR l = List.replicate i 32 ++ (r ++ [x]) := by
        conv => lhs; rw [hi, hj, hx]
        rw [← List.append_assoc, tR_rep, ← List.append_assoc, tR_last _ _ hn, List.append_assoc]
      rw [e, tL_rep, hx]
      have hrx : r ++ [x] ≠ [] := by simp
      cases hr : r ++ [x] with
      | nil => exact absurd hr hrx
      | cons z t =>
        have hz : tL l = (z :: t) ++ List.replicate j 32 := by rw [← hr, ← hx]; exact hj
        rw [hy] at hz
        have : y = z := by simpa using congrArg List.head? hz
        simp only [tL]
        rw [if_neg (by rw [← this]; exact hyn)]
/-- Where the first comma stands; the end, where there is none. -/
def ci : List UInt8 → Nat
  | [] => 0
  | x :: r => if x = 44 then 0 else ci r + 1
theorem ci_le : ∀ l, ci l ≤ l.length
  | [] => Nat.le_refl _
  | x :: r => by
    have := ci_le r
    simp only [ci]
    split <;> simp <;> omega
theorem ci_at : ∀ (l : List UInt8) (h : ci l < l.length), l[ci l]? = some 44
  | [], h => by simp [ci] at h
  | x :: r, h => by
    by_cases hx : x = 44
    · simp only [ci]; rw [if_pos hx, hx]; rfl
    · simp only [ci, if_neg hx] at h ⊢
      rw [List.getElem?_cons_succ]
      exact ci_at r (by simpa using h)
theorem ci_no : ∀ (l : List UInt8) (k : Nat), k < ci l → l[k]? ≠ some 44
  | [], k, h => by simp [ci] at h
  | x :: r, k, h => by
    by_cases hx : x = 44
    · simp only [ci] at h; rw [if_pos hx] at h; omega
    · simp only [ci, if_neg hx] at h
      cases k with
      | zero => simpa using hx
      | succ k => rw [List.getElem?_cons_succ]; exact ci_no r k (by omega)
theorem ib_ci (l : List UInt8) : Lib.indexByte l 44 = if ci l < l.length then (ci l : Int) else -1 := by
  have hge := Lib.indexByte_ge l 44
  by_cases hn : Lib.indexByte l 44 = -1
  · rw [hn, if_neg]
    intro h
    exact Lib.indexByte_none hn (ci l) (ci_at l h)
  · obtain ⟨o, ho⟩ : ∃ o : Nat, Lib.indexByte l 44 = (o : Int) := ⟨(Lib.indexByte l 44).toNat, by omega⟩
    obtain ⟨h1, h2⟩ := Lib.indexByte_some ho
    have hol : o < l.length := (List.getElem?_eq_some_iff.1 h1).1
    have e : ci l = o := by
      have a : ¬ ci l < o := fun h => h2 (ci l) h (ci_at l (by omega))
      have b : ¬ o < ci l := fun h => ci_no l o h h1
      omega
    rw [ho, e, if_pos hol]
/-- The parts between commas. -/
def pa : Nat → List UInt8 → List (List UInt8)
  | 0, l => [l]
  | k + 1, l => if ci l < l.length then l.take (ci l) :: pa k (l.drop (ci l + 1)) else [l]
/-- A digit's urgency. -/
def ug : List UInt8 → Option Nat
  | [a, b, c] => if a = 117 ∧ b = 61 ∧ 48 ≤ c.toNat ∧ c.toNat ≤ 55 then some (c.toNat - 48) else none
  | _ => none
/-- What a part turns. -/
def stp (u : Int × Bool) (p : List UInt8) : Int × Bool :=
  if tL (tR p) = [105] ∨ tL (tR p) = [105, 61, 63, 49] then (u.1, true)
  else if tL (tR p) = [105, 61, 63, 48] then (u.1, false)
  else match ug (tL (tR p)) with
    | some k => ((k : Int), u.2)
    | none => u
theorem stp_nil (u : Int × Bool) : stp u [] = u := by
  unfold stp
  have e : tL (tR []) = [] := rfl
  rw [e]
  simp [ug]
def rpV (l : List UInt8) : Int × Bool := if 1024 < l.length then (3, false) else (pa l.length l).foldl stp (3, false)
theorem pa_nil (k : Nat) : pa k [] = [[]] := by cases k <;> simp [pa, ci]
theorem pa_fuel : ∀ (k : Nat) (l : List UInt8), l.length ≤ k → pa (k + 1) l = pa k l
  | 0, l, h => by
    obtain rfl : l = [] := List.eq_nil_of_length_eq_zero (by omega)
    rfl
  | k + 1, l, h => by
    show (if ci l < l.length then _ else _) = (if ci l < l.length then _ else _)
    by_cases hc : ci l < l.length
    · rw [if_pos hc, if_pos hc, pa_fuel k _ (by rw [List.length_drop]; omega)]
    · rw [if_neg hc, if_neg hc]
theorem pa_more (l : List UInt8) : ∀ (k : Nat), l.length ≤ k → pa k l = pa l.length l
  | 0, h => by rw [show l.length = 0 by omega]
  | k + 1, h => by
    by_cases e : l.length = k + 1
    · rw [e]
    · rw [pa_fuel k l (by omega), pa_more l k (by omega)]
theorem pa_yes (l : List UInt8) (h : ci l < l.length) : pa l.length l = l.take (ci l) :: pa (l.drop (ci l + 1)).length (l.drop (ci l + 1)) := by
  obtain ⟨k, hk⟩ : ∃ k, l.length = k + 1 := ⟨l.length - 1, by omega⟩
  rw [hk]
  show (if ci l < l.length then _ else _) = _
  rw [if_pos h, pa_more (l.drop (ci l + 1)) k (by rw [List.length_drop]; omega)]
theorem pa_not (l : List UInt8) (h : ¬ ci l < l.length) : pa l.length l = [l] := by
  cases hk : l.length with
  | zero => rfl
  | succ k =>
    show (if ci l < l.length then _ else _) = _
    rw [if_neg h]
end Go.Proofs.YtpbkigmcbgbfgaaDoor
