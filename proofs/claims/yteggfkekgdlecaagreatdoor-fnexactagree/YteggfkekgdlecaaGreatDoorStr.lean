import Derived.Test.YteggfkekgdlecaaGreatDoorVals
import Derived.Laws.BytesArg
namespace Go.Proofs.YteggfkekgdlecaaGreatDoor
open Go.RowKit
set_option linter.unusedVariables false

theorem str_inj (xs ys : List Int) (hx : Bytes xs) (hy : Bytes ys) : strOfNums xs = strOfNums ys ↔ xs = ys := by
  constructor
  · intro h
    have h' : (strOfNums xs).data.toList = (strOfNums ys).data.toList := by rw [h]
    rw [strOfNums_data, strOfNums_data] at h'
    have hl : xs.length = ys.length := by simpa using congrArg List.length h'
    apply List.ext_getElem hl
    intro i h1 h2
    have := congrArg (·[i]?) h'
    simp only [List.getElem?_map, List.getElem?_eq_getElem h1, List.getElem?_eq_getElem h2, Option.map_some, Option.some.injEq] at this
    have a := hx _ (List.getElem_mem h1)
    have b := hy _ (List.getElem_mem h2)
    have t := congrArg UInt8.toNat this
    simp only [UInt8.toNat_ofNat'] at t
    omega
  · rintro rfl; rfl


/-- string(v) of a row of the call's own. -/
theorem conv_own {P : Program} {w : World} {base e n ts tstr : Nat} {v : Value} {xs : List Int} (hs : P.underlying ts = some (.slice e)) (he : P.underlying e = some (.int .u8)) (hd : P.underlying tstr = some .string)
    (h : w.ownsRow base e 1 v n (xs.map (Value.int .u8))) : (convert ts tstr v).run P w = .ok (.string (strOfNums xs)) w := by
  have hl : xs.length = n := by simpa using h.1
  rcases h.2 with ⟨rfl, h0⟩ | ⟨g, cap, cur, rfl, hg, hh, r⟩
  · subst h0
    obtain rfl : xs = [] := List.eq_nil_of_length_eq_zero hl
    rw [run_convert_bytes_nil w ts e hs he 0 0 tstr hd]
    rfl
  · exact run_convert_bytes_arg w ts e hs he g 0 n cap xs hl (fun i hi => by rw [Nat.zero_add]; exact owns_cell h hl hi) tstr hd
end Go.Proofs.YteggfkekgdlecaaGreatDoor
