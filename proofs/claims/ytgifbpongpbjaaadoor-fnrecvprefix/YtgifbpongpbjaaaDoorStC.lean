import Derived.Test.YtgifbpongpbjaaaDoorStF
import Derived.Laws.CopyRow
import Derived.Laws.CopyOwn
namespace Go.Proofs.YtgifbpongpbjaaaDoor
open Go.RowKit
set_option linter.unusedVariables false

theorem run_copy2 {P : Program} (w : World) (dT sT ty elem : TypeId) (g o dLen dCap : Nat) (a : Addr) (sLen sCap : Nat) (cur : Array Value) (t : TypeId) (cs : List Value)
    (hu : P.underlying dT = some (.slice elem)) (hs : (P.info? elem).map (·.size) = some 2)
    (hg : w.heap[g]? = some (.cells cur t (0, 0))) (hn : cs.length = Nat.min sLen dLen * 2)
    (hsrc : ∀ j v, cs[j]? = some v → w.cell? (a.add j) = some v) (hfit : o + cs.length ≤ cur.size) (h1 : ∀ v ∈ cs, v.oneCell' = true) :
    (Builtin.copy_ #[dT, sT] ty #[.slice (some ⟨g, o, none⟩) dLen dCap, .slice (some a) sLen sCap]).run P w =
      .ok (goInt (Nat.min sLen dLen)) (w.setRow g (cur.toList.take o ++ cs ++ cur.toList.drop (o + cs.length)).toArray) := by
  have hl := run_loadCells_list (P := P) w a cs hsrc
  have hst := run_storeCells_at P g o t cs 0 cur w hg (by simpa using hfit) h1
  cases hq : P.info? elem with
  | none => simp [hq] at hs
  | some i =>
    have hi : i.size = 2 := by simpa [hq] using hs
    rw [hn] at hl
    simp [Builtin.copy_, run_underlying hu, Builtin.lenOf, Builtin.firstCells, sizeOf, typeInfo, hq, hi, hl, hst]
theorem zeros2 (n : Nat) : (Builtin.zeroCells #[Value.bool false, Value.int .u8 0] n).toList = rc (List.replicate n (false, 0)) := by
  apply List.ext_getElem?
  intro i
  simp only [Builtin.zeroCells, Array.toList_map, Array.toList_range]
  by_cases h : i < n * 2
  · obtain ⟨j, hj⟩ : ∃ j, i = j * 2 ∨ i = j * 2 + 1 := ⟨i / 2, by omega⟩
    rcases hj with rfl | rfl
    · rw [rc_get0 _ j (by simp; omega)]
      simp [show j * 2 < n * 2 by omega, show j < n by omega]
    · rw [rc_get1 _ j (by simp; omega)]
      simp [show j * 2 + 1 < n * 2 by omega, show j < n by omega, show (j * 2 + 1) % 2 = 1 by omega]
  · rw [List.getElem?_eq_none (by simp; omega), List.getElem?_eq_none (by rw [rc_length]; simp; omega)]
theorem run_clear2 {P : Program} (w : World) (T ty elem : TypeId) (g o n cap : Nat) (cur : Array Value) (t : TypeId) (h0 : 0 < n)
    (hu : P.underlying T = some (.slice elem)) (hz : (P.info? elem).map (·.zero) = some (some (.agg #[.bool false, .int .u8 0])))
    (hg : w.heap[g]? = some (.cells cur t (0, 0))) (hfit : o + n * 2 ≤ cur.size) :
    (Builtin.clear_ #[T] ty #[.slice (some ⟨g, o, none⟩) n cap]).run P w = .ok (.tuple #[]) (w.setRow g (cur.toList.take o ++ rc (List.replicate n (false, 0)) ++ cur.toList.drop (o + n * 2)).toArray) := by
  have hlen : (rc (List.replicate n (false, (0 : Int)))).length = n * 2 := by rw [rc_length]; simp; omega
  have hone : ∀ v ∈ rc (List.replicate n (false, (0 : Int))), v.oneCell' = true := by
    intro v hv
    obtain ⟨i, hi, e⟩ := List.getElem_of_mem hv
    have hg' := List.getElem?_eq_getElem hi
    rw [e] at hg'
    obtain ⟨j, hj⟩ : ∃ j, i = j * 2 ∨ i = j * 2 + 1 := ⟨i / 2, by omega⟩
    rcases hj with rfl | rfl
    · rw [rc_get0 _ j (by simp; omega)] at hg'; cases hg'; rfl
    · rw [rc_get1 _ j (by simp; omega)] at hg'; cases hg'; rfl
  have hst := run_storeCells_at P g o t (rc (List.replicate n (false, 0))) 0 cur w hg (by rw [hlen]; simpa using hfit) hone
  rw [hlen] at hst
  cases hq : P.info? elem with
  | none => simp [hq] at hz
  | some i =>
    have hi : i.zero = some (.agg #[.bool false, .int .u8 0]) := by simpa [hq] using hz
    have hc : (Value.agg #[.bool false, .int .u8 0]).cells = #[.bool false, .int .u8 0] := rfl
    obtain ⟨m, rfl⟩ : ∃ m, n = m + 1 := ⟨n - 1, by omega⟩
    simp [Builtin.clear_, run_underlying hu, zeroValue, typeInfo, hq, hi, hc, zeros2, hst]
end Go.Proofs.YtgifbpongpbjaaaDoor
