import Derived.Test.YthjakbpcpfmbjaaSource
import Derived.Deep.RegionWith
namespace Go.Proofs.Ythjakbpcpfmbjaa
open Go.RowKit
set_option linter.unusedVariables false

def i64b (a : Int) : Prop := -9223372036854775808 ≤ a ∧ a ≤ 9223372036854775807
theorem tab9_bd (i : Nat) : i64b (tab9.getD i 0) := by
  unfold i64b
  match i with
  | 0 | 1 | 2 | 3 | 4 | 5 | 6 | 7 | 8 => simp [tab9]
  | n + 9 => simp [tab9, List.getD]
theorem tab4_bd (i : Nat) : i64b (tab4.getD i 0) := by
  unfold i64b
  match i with
  | 0 | 1 | 2 | 3 => simp [tab4]
  | n + 4 => simp [tab4, List.getD]
theorem numV_bd (xs : List Int) (s : St) : i64b (numV xs s) := by
  have h2 := nextV_bd xs 16777216 (nextS xs 12 s) (by decide)
  have h3 := nextV_bd xs 65536 (nextS xs 16777216 (nextS xs 12 s)) (by decide)
  have h4 := nextV_bd xs 20000 (nextS xs 12 s) (by decide)
  have h5 := nextV_bd xs 100 (nextS xs 12 s) (by decide)
  unfold numV
  split
  · exact tab9_bd _
  · split
    · unfold i64b; omega
    · split
      · exact tab4_bd _
      · split
        · unfold i64b; omega
        · unfold i64b; omega

theorem drw_heap {w w' : World} {g : Nat} {v : Value} {xs : List Int} {s : St} (h : Drw w g v xs s) (e : w'.heap = w.heap) : Drw w' g v xs s := by
  refine ⟨by rw [e]; exact h.blk, ?_, h.apart, h.bytes, h.len, h.p0, h.s0, h.s1⟩
  rcases h.row with h | ⟨b, off, cap, e1, hlt, hcap, hc⟩
  · exact Or.inl h
  · refine Or.inr ⟨b, off, cap, e1, by rw [e]; exact hlt, hcap, fun j hj => ?_⟩
    rw [← hc j hj]
    simp [World.cell?, e]

theorem sub_bd (a y : Int) (ha : 0 ≤ a) (ha1 : a ≤ 9223372036854775807) (ly : 0 ≤ y) (uy : y ≤ 2147483648) : i64b (IntKind.i64.wrap (a - 1 - y)) := by
  have hw : IntKind.i64.wrap (a - 1 - y) = a - 1 - y := by
    simp [IntKind.wrap, IntKind.bits, IntKind.signed]
    omega
  rw [hw]
  exact ⟨by omega, by omega⟩
theorem grown_drew (w : World) (r : Option Nat) : w.grownBy w.drew r := ⟨rfl, rfl, rfl, Nat.le_refl _, fun _ _ _ => rfl⟩
theorem laid_at {w w' : World} {g i : Nat} {c : Array Value} {e : TypeId} {u : Value} (hg : (w.alloc (.cells c e)).grownBy w' (some g)) (hgB : g < w.heap.size) (h : Hid (c[i]? = some u)) :
    w'.cell? ⟨w.heap.size, i, none⟩ = some u := by
  have h1 : w'.heap[w.heap.size]? = some (.cells c e (0, 0)) := by
    rw [hg.block w.heap.size (by simp) (fun h => by have := Option.some.inj h; omega)]
    exact (MapKept.heap_alloc w _).1
  rw [blk_cell h1]
  exact h.out
def tabN (y1 y2 y3 : Int) : List Int := [y1, y2, y3, 127, 128, 32767, 32768, 2147483647, 2147483648]
theorem tabN_at (y1 y2 y3 : Int) (i : Nat) (hi : i < 9) : (#[.int .i64 y1, .int .i64 y2, .int .i64 y3, .int .i64 127, .int .i64 128, .int .i64 32767, .int .i64 32768, .int .i64 2147483647, .int .i64 2147483648] : Array Value)[i]? = some (.int .i64 ((tabN y1 y2 y3).getD i 0)) := by
  match i, hi with
  | 0, _ | 1, _ | 2, _ | 3, _ | 4, _ | 5, _ | 6, _ | 7, _ | 8, _ => rfl
theorem tabN_bd (y1 y2 y3 : Int) (i : Nat) (l1 : 0 ≤ y1) (u1 : y1 < 300) (l2 : 0 ≤ y2) (u2 : y2 < 70000) (l3 : 0 ≤ y3) (u3 : y3 < 16777216) (hi : i < 9) : 0 ≤ (tabN y1 y2 y3).getD i 0 ∧ (tabN y1 y2 y3).getD i 0 ≤ 2147483648 := by
  match i, hi with
  | 0, _ | 1, _ | 2, _ | 3, _ | 4, _ | 5, _ | 6, _ | 7, _ | 8, _ => simp [tabN]; try omega

end Go.Proofs.Ythjakbpcpfmbjaa
