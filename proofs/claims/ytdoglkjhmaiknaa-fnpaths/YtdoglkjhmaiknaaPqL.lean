import Derived.Test.YtdoglkjhmaiknaaVals
import Derived.Laws.BytesArg
namespace Go.Proofs.Ytdoglkjhmaiknaa
open Go.RowKit
set_option linter.unusedVariables false

theorem str_inj (xs ys : List Int) (hx : Bytes xs) (hy : Bytes ys) : strOfNums xs = strOfNums ys ↔ xs = ys := by
  constructor
  · intro h
    have h' : (strOfNums xs).data.toList = (strOfNums ys).data.toList := by rw [h]
    rw [strOfNums_data, strOfNums_data] at h'
    have hl : xs.length = ys.length := by simpa using congrArg List.length h'
    apply List.ext_getElem hl
    intro i h1 h2
    have := congrArg (·[i]?) h'
    simp only [List.getElem?_map, List.getElem?_eq_getElem h1, List.getElem?_eq_getElem h2, Option.map_some, Option.some.injEq] at this
    have a := hx _ (List.getElem_mem h1)
    have b := hy _ (List.getElem_mem h2)
    have t := congrArg UInt8.toNat this
    simp only [UInt8.toNat_ofNat'] at t
    omega
  · rintro rfl; rfl


/-- string(v) of a row of the call's own. -/
theorem conv_own {P : Program} {w : World} {base e n ts tstr : Nat} {v : Value} {xs : List Int} (hs : P.underlying ts = some (.slice e)) (he : P.underlying e = some (.int .u8)) (hd : P.underlying tstr = some .string)
    (h : w.ownsRow base e 1 v n (xs.map (Value.int .u8))) : (convert ts tstr v).run P w = .ok (.string (strOfNums xs)) w := by
  have hl : xs.length = n := by simpa using h.1
  rcases h.2 with ⟨rfl, h0⟩ | ⟨g, cap, cur, rfl, hg, hh, r⟩
  · subst h0
    obtain rfl : xs = [] := List.eq_nil_of_length_eq_zero hl
    rw [run_convert_bytes_nil w ts e hs he 0 0 tstr hd]
    rfl
  · exact run_convert_bytes_arg w ts e hs he g 0 n cap xs hl (fun i hi => by rw [Nat.zero_add]; exact owns_cell h hl hi) tstr hd
end Go.Proofs.Ytdoglkjhmaiknaa

namespace Go.Proofs.Ytdoglkjhmaiknaa
open Go.RowKit
set_option linter.unusedVariables false

theorem toList_loop (bs : ByteArray) (n : Nat) : ∀ (i : Nat) (r : List UInt8), bs.size - i = n → ByteArray.toList.loop bs i r = r.reverse ++ bs.data.toList.drop i := by
  have hsz : bs.data.toList.length = bs.size := by rw [Array.length_toList]; rfl
  induction n with
  | zero =>
    intro i r h
    rw [ByteArray.toList.loop, if_neg (by omega), List.drop_eq_nil_of_le (by omega)]
    simp
  | succ n ih =>
    intro i r h
    have hi : i < bs.data.toList.length := by omega
    rw [ByteArray.toList.loop, if_pos (by omega), ih (i + 1) _ (by omega), List.drop_eq_getElem_cons hi]
    have e : bs.get! i = bs.data.toList[i] := by
      have hi' : i < bs.data.size := by rw [← Array.length_toList]; exact hi
      show bs.data[i]! = _
      rw [getElem!_pos bs.data i hi', Array.getElem_toList]
    rw [e]
    simp
theorem toList_data (bs : ByteArray) : bs.toList = bs.data.toList := by
  have := toList_loop bs (bs.size - 0) 0 [] rfl
  unfold ByteArray.toList
  rw [this]
  simp
/-- Two unlike lists of bytes give two unlike texts. -/
theorem str_ne (xs ys : List Int) (hx : Bytes xs) (hy : Bytes ys) (h : xs ≠ ys) : ((strOfNums xs).toList == (strOfNums ys).toList) = false := by
  rw [beq_eq_false_iff_ne, toList_data, toList_data]
  intro e
  have : strOfNums xs = strOfNums ys := by
    cases hs : strOfNums xs with
    | mk a =>
      cases ht : strOfNums ys with
      | mk b =>
        rw [hs, ht] at e
        simp only at e
        congr 1
        exact Array.toList_inj.1 e
  exact h ((str_inj xs ys hx hy).1 this)
end Go.Proofs.Ytdoglkjhmaiknaa

namespace Go.Proofs.Ytdoglkjhmaiknaa
open Go.RowKit
set_option linter.unusedVariables false

theorem blkS_cell {w : World} {g : Nat} {c : Array Value} {t : TypeId} {fr : Nat × Nat} (h : w.heap[g]? = some (.cells c t fr)) (o : Nat) : w.cell? ⟨g, o, none⟩ = c[o]? := by
  simp [World.cell?, h]
theorem blkS_free {w : World} {g : Nat} {c : Array Value} {t : TypeId} (h : w.heap[g]? = some (.cells c t (0, 0))) (o : Nat) : w.frozen? ⟨g, o, none⟩ = false := by
  simp [World.frozen?, h]
theorem one_row (w : World) (x : Int) : Row (w.alloc (.cells #[.int .u8 x] 5)) .u8 (.slice (some ⟨w.heap.size, 0, none⟩) 1 1) [x] := by
  refine Or.inr ⟨w.heap.size, 0, 1, rfl, by simp, ⟨Nat.le_refl _, by unfold maxLen; decide⟩, fun j hj => ?_⟩
  have : j = 0 := by simpa using hj
  subst this
  rw [blkS_cell (MapKept.heap_alloc w _).1]
  rfl
/-- A list of rows of bytes, as '...' hands it on. -/
structure Parts (w : World) (vp : Value) (L : List (List Int)) : Prop where
  at' : ∃ p cap, vp = .slice (some ⟨p, 0, none⟩) L.length cap ∧ p < w.heap.size ∧ ∀ j, j < L.length → ∃ v, w.cell? ⟨p, j, none⟩ = some v ∧ Row w .u8 v (L.getD j [])
theorem flat_take (L : List (List Int)) (k : Nat) (hk : k < L.length) : (L.take (k + 1)).flatten = (L.take k).flatten ++ L.getD k [] := by
  rw [List.take_add_one, List.flatten_append]
  simp [List.getD, hk]
theorem Parts.below {w w' : World} {v : Value} {L : List (List Int)} (h : Parts w v L) (hb : Below w.heap.size w w') : Parts w' v L := by
  obtain ⟨p, cap, rfl, hp, hc⟩ := h.at'
  refine ⟨p, cap, rfl, by have := hb.size; omega, fun j hj => ?_⟩
  obtain ⟨v, hv, hr⟩ := hc j hj
  exact ⟨v, (hb.cell (p := ⟨p, j, none⟩) hp).trans hv, hr.below hb⟩
/-- One part, two parts. -/
theorem parts1 {w : World} {v : Value} {xs : List Int} (h : Row w .u8 v xs) (t : TypeId) : Parts (w.alloc (.cells #[v] t)) (.slice (some ⟨w.heap.size, 0, none⟩) 1 1) [xs] := by
  refine ⟨w.heap.size, 1, rfl, by simp, fun j hj => ?_⟩
  obtain rfl : j = 0 := by simp at hj; omega
  exact ⟨v, by rw [blkS_cell (MapKept.heap_alloc w _).1]; rfl, h.below ((Below.refl _ _).alloc (Nat.le_refl _) _)⟩
theorem parts2 {w : World} {v v2 : Value} {xs ys : List Int} (h : Row w .u8 v xs) (h2 : Row w .u8 v2 ys) (t : TypeId) : Parts (w.alloc (.cells #[v, v2] t)) (.slice (some ⟨w.heap.size, 0, none⟩) 2 2) [xs, ys] := by
  refine ⟨w.heap.size, 2, rfl, by simp, fun j hj => ?_⟩
  have hb := (Below.refl w.heap.size w).alloc (Nat.le_refl _) (.cells #[v, v2] t)
  rcases (show j = 0 ∨ j = 1 by simp at hj; omega) with rfl | rfl
  · exact ⟨v, by rw [blkS_cell (MapKept.heap_alloc w _).1]; rfl, h.below hb⟩
  · exact ⟨v2, by rw [blkS_cell (MapKept.heap_alloc w _).1]; rfl, h2.below hb⟩
theorem bytes_getD2 {xs ys : List Int} (hx : Bytes xs) (hy : Bytes ys) (j : Nat) : Bytes ([xs, ys].getD j []) := by
  match j with
  | 0 => exact hx
  | 1 => exact hy
  | n + 2 => intro x h; simp [List.getD] at h
theorem bytes_getD1 {xs : List Int} (hx : Bytes xs) (j : Nat) : Bytes ([xs].getD j []) := by
  match j with
  | 0 => exact hx
  | n + 1 => intro x h; simp [List.getD] at h
end Go.Proofs.Ytdoglkjhmaiknaa
