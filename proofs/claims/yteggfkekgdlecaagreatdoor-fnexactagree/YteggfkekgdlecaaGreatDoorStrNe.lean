import Derived.Test.YteggfkekgdlecaaGreatDoorStr
namespace Go.Proofs.YteggfkekgdlecaaGreatDoor
open Go.RowKit
set_option linter.unusedVariables false

theorem toList_loop (bs : ByteArray) (n : Nat) : ∀ (i : Nat) (r : List UInt8), bs.size - i = n → ByteArray.toList.loop bs i r = r.reverse ++ bs.data.toList.drop i := by
  have hsz : bs.data.toList.length = bs.size := by rw [Array.length_toList]; rfl
  induction n with
  | zero =>
    intro i r h
    rw [ByteArray.toList.loop, if_neg (by omega), List.drop_eq_nil_of_le (by omega)]
    simp
  | succ n ih =>
    intro i r h
    have hi : i < bs.data.toList.length := by omega
    rw [ByteArray.toList.loop, if_pos (by omega), ih (i + 1) _ (by omega), List.drop_eq_getElem_cons hi]
    have e : bs.get! i = bs.data.toList[i] := by
      have hi' : i < bs.data.size := by rw [← Array.length_toList]; exact hi
      show bs.data[i]! = _
      rw [getElem!_pos bs.data i hi', Array.getElem_toList]
    rw [e]
    simp
theorem toList_data (bs : ByteArray) : bs.toList = bs.data.toList := by
  have := toList_loop bs (bs.size - 0) 0 [] rfl
  unfold ByteArray.toList
  rw [this]
  simp
/-- Two unlike lists of bytes give two unlike texts. -/
theorem str_ne (xs ys : List Int) (hx : Bytes xs) (hy : Bytes ys) (h : xs ≠ ys) : ((strOfNums xs).toList == (strOfNums ys).toList) = false := by
  rw [beq_eq_false_iff_ne, toList_data, toList_data]
  intro e
  have : strOfNums xs = strOfNums ys := by
    cases hs : strOfNums xs with
    | mk a =>
      cases ht : strOfNums ys with
      | mk b =>
        rw [hs, ht] at e
        simp only at e
        congr 1
        exact Array.toList_inj.1 e
  exact h ((str_inj xs ys hx hy).1 this)
end Go.Proofs.YteggfkekgdlecaaGreatDoor
