import Derived.Test.YtbbiinbjgognjaaDoorRdV
import Derived.Test.YtbbiinbjgognjaaDoorFirstLong
import Derived.Test.YtbbiinbjgognjaaDoorHead8
namespace Go.Proofs.YtbbiinbjgognjaaDoor
open Go.RowKit
set_option linter.unusedVariables false

/-- What can be told of a packet without a key. -/
structure PK where
  f : Int
  v : Int
  d : List Int
  s : List Int
  t : List Int
  vers : List Int
  na : Nat
  fin : Nat
def lform (f : Int) : Int := if f < 192 then 0 else if f < 208 then 1 else if f < 224 then 0 else if f < 240 then 2 else 3
def pkIni (xs : List Int) (v : Int) (d s : List Int) (p : Nat) : Except Int PK :=
  if varOK xs p then
    if 64 < varV xs p then .error 3
    else if xs.length < varN xs p + (varV xs p).toNat then .error 2
    else match pkBeh xs (varN xs p + (varV xs p).toNat) with
      | .error c => .error c
      | .ok (a, q) => .ok ⟨1, v, d, s, sub xs (varN xs p) (varV xs p).toNat, [], a, q⟩
  else .error 2
def pkTail (xs : List Int) (first v : Int) (d s : List Int) (p : Nat) : Except Int PK :=
  if v = 0 then
    if first ≠ 128 then .error 3
    else match pkVer xs p with
      | .error c => .error c
      | .ok L => .ok ⟨5, v, d, s, [], L, 0, xs.length⟩
  else if lform first = 3 then
    match pkRet xs p with
      | .error c => .error c
      | .ok t => .ok ⟨3, v, d, s, t, [], 0, xs.length⟩
  else if lform first = 1 then pkIni xs v d s p
  else if lform first = 2 then
    match pkBeh xs p with
      | .error c => .error c
      | .ok (a, q) => .ok ⟨2, v, d, s, [], [], a, q⟩
  else .error 3
def pkLong (xs : List Int) (first : Int) : Except Int PK :=
  if xs.length < 5 then .error 2
  else match pkCid xs 5 with
    | .error c => .error c
    | .ok (d, p1) => match pkCid xs p1 with
      | .error c => .error c
      | .ok (s, p2) => pkTail xs first (vals (sub xs 1 4)) d s p2
theorem pkLong_2 {xs : List Int} {first c : Int} (h : ¬ xs.length < 5) (h1 : pkCid xs 5 = .error c) : pkLong xs first = .error c := by unfold pkLong; rw [if_neg h, h1]
theorem pkLong_3 {xs d : List Int} {first c : Int} {p1 : Nat} (h : ¬ xs.length < 5) (h1 : pkCid xs 5 = .ok (d, p1)) (h2 : pkCid xs p1 = .error c) : pkLong xs first = .error c := by unfold pkLong; rw [if_neg h, h1]; simp only; rw [h2]
theorem pkLong_4 {xs d s : List Int} {first : Int} {p1 p2 : Nat} (h : ¬ xs.length < 5) (h1 : pkCid xs 5 = .ok (d, p1)) (h2 : pkCid xs p1 = .ok (s, p2)) : pkLong xs first = pkTail xs first (vals (sub xs 1 4)) d s p2 := by unfold pkLong; rw [if_neg h, h1]; simp only; rw [h2]
set_option maxRecDepth 20000 in
theorem longFormC (f : Int) (w : World) (hL : TabL w) (h0 : 0 ≤ f) (h1 : f < 256) : Calls Tryd.prog 61 #[.int .u8 f] w fun e w' => e = .returned (.int .i64 (lform f)) ∧ w' = w := by
  obtain ⟨t0, t1, t2, t3⟩ := hL
  by_cases a : f < 192
  · have e : lform f = 0 := by unfold lform; rw [if_pos a]
    rw [e]
    replace a : decide (f < 192) = true := decide_eq_true a
    clear e h0 h1
    go_enter Tryd.func61, Tryd.ntmps61
    go_wp2
    go_ret
    exact ⟨rfl, rfl⟩
  have a' : decide (f < 192) = false := decide_eq_false a
  have hw : IntKind.u8.wrap (f - 192) = f - 192 := by rw [IntKind.wrap_u8]; omega
  obtain ⟨j, hj, hj4⟩ : ∃ j : Nat, (f - 192) / 16 = (j : Int) ∧ j < 4 := ⟨((f - 192) / 16).toNat, by omega, by omega⟩
  have hq : (f - 192).tdiv 16 = (j : Int) := by rw [Int.tdiv_eq_ediv_of_nonneg (by omega)]; exact hj
  have hw2 : IntKind.u8.wrap (j : Int) = (j : Int) := by rw [IntKind.wrap_u8]; omega
  rcases (show j = 0 ∨ j = 1 ∨ j = 2 ∨ j = 3 by omega) with rfl | rfl | rfl | rfl
  · have e : lform f = 1 := by unfold lform; rw [if_neg a, if_pos (by omega)]
    rw [e]
    clear a e h0 h1 hj hj4
    go_enter Tryd.func61, Tryd.ntmps61
    go_wp2
    go_ret
    exact ⟨rfl, rfl⟩
  · have e : lform f = 0 := by unfold lform; rw [if_neg a, if_neg (by omega), if_pos (by omega)]
    rw [e]
    clear a e h0 h1 hj hj4
    go_enter Tryd.func61, Tryd.ntmps61
    go_wp2
    go_ret
    exact ⟨rfl, rfl⟩
  · have e : lform f = 2 := by unfold lform; rw [if_neg a, if_neg (by omega), if_neg (by omega), if_pos (by omega)]
    rw [e]
    clear a e h0 h1 hj hj4
    go_enter Tryd.func61, Tryd.ntmps61
    go_wp2
    go_ret
    exact ⟨rfl, rfl⟩
  · have e : lform f = 3 := by unfold lform; rw [if_neg a, if_neg (by omega), if_neg (by omega), if_neg (by omega)]
    rw [e]
    clear a e h0 h1 hj hj4
    go_enter Tryd.func61, Tryd.ntmps61
    go_wp2
    go_ret
    exact ⟨rfl, rfl⟩
end Go.Proofs.YtbbiinbjgognjaaDoor
