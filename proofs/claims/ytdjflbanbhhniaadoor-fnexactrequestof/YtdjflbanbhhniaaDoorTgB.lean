import Derived.Test.YtdjflbanbhhniaaDoorTgA
import Derived.Test.YtdjflbanbhhniaaDoorTbL
import Derived.Laws.Rows
namespace Go.Proofs.YtdjflbanbhhniaaDoor
open Go.RowKit
set_option linter.unusedVariables false

theorem After.cells2 {w w1 : World} {x0 x1 : Value} {t : TypeId} (h : After w (.cells #[x0, x1] t) w1) :
    w1.heap[w.heap.size]? = some (.cells #[x0, x1] t (0, 0)) ∧ w1.cell? ⟨w.heap.size, 0, none⟩ = some x0 ∧ w1.cell? ⟨w.heap.size, 1, none⟩ = some x1 ∧ w1.frozen? ⟨w.heap.size, 0, none⟩ = false ∧ w1.frozen? ⟨w.heap.size, 1, none⟩ = false := by
  have k : w1.heap[w.heap.size]? = some (.cells #[x0, x1] t (0, 0)) := (Below.block h w.heap.size (by omega)).trans (MapKept.heap_alloc w (.cells #[x0, x1] t)).1
  exact ⟨k, by rw [bk_cell k]; rfl, by rw [bk_cell k]; rfl, bk_free k 0, bk_free k 1⟩
theorem infoFd : (Tryd.prog.info? 44).map (·.size) = some 2 := by kernel_rfl
set_option maxRecDepth 20000 in
set_option maxHeartbeats 1000000 in
theorem cloneF (a c : ByteArray) (w : World) (ha : a.size ≤ 1048576) (hc : c.size ≤ 1048576) :
    Calls Tryd.prog 39 #[.agg #[.string a, .string c]] w fun e w' => e = .returned (.agg #[.string a, .string c]) ∧ Below w.heap.size w w' := by
  have CA : ∀ u, _ := fun u => cloneC a u ha
  have CC : ∀ u, _ := fun u => cloneC c u hc
  have A0 := (After.new w (.cells #[.string a, .string c] 44)).next ((Below.refl _ _).alloc (Nat.le_refl _) (.cells #[.string ⟨#[]⟩, .string ⟨#[]⟩] 44))
  have N0 := After.new (w.alloc (.cells #[.string a, .string c] 44)) (.cells #[.string ⟨#[]⟩, .string ⟨#[]⟩] 44)
  have zal : (w.alloc (.cells #[.string a, .string c] 44)).heap.size = w.heap.size + 1 := by simp
  have A1 := A0.next (drew_below _)
  have N1 := N0.next (drew_below _)
  have KN : Hid (∀ u, After (w.alloc (.cells #[.string a, .string c] 44)) (.cells #[.string ⟨#[]⟩, .string ⟨#[]⟩] 44) u → u.heap[w.heap.size + 1]? = some (.cells #[.string ⟨#[]⟩, .string ⟨#[]⟩] 44 (0, 0)) ∧ u.cell? ⟨w.heap.size + 1, 0, none⟩ = some (.string ⟨#[]⟩) ∧ u.cell? ⟨w.heap.size + 1, 1, none⟩ = some (.string ⟨#[]⟩) ∧ u.frozen? ⟨w.heap.size + 1, 0, none⟩ = false ∧ u.frozen? ⟨w.heap.size + 1, 1, none⟩ = false) := fun u hu => by have := hu.cells2; rw [zal] at this; exact this
  obtain ⟨_, d0, d1, _, _⟩ := A1.cells2
  obtain ⟨_, e0, e1, g0, g1⟩ := KN.out _ N1
  have HC : Hid _ := And.intro CA CC
  have HB : Hid _ := And.intro A1 N1
  clear CA CC A0 N0 zal A1 N1
  go_enter Tryd.func39, Tryd.ntmps39
  go_wp2_with fail
  go_region_with (first
    | (go_at_call 29; refine (HC.out.1 _).mono ?_; rintro e wz ⟨rfl, bz⟩; have HD : Hid _ := And.intro (HB.out.1.next bz) (HB.out.2.next bz); clear HB; have HB : Hid _ := HD.out; clear HD bz; clear d0 d1 e0 e1 g0 g1; obtain ⟨_, d0, d1, _, _⟩ := HB.out.1.cells2; obtain ⟨_, e0, e1, g0, g1⟩ := KN.out _ HB.out.2)
    | (go_at_call 29; refine (HC.out.2 _).mono ?_; rintro e wz ⟨rfl, bz⟩; have HD : Hid _ := And.intro (HB.out.1.next bz) (HB.out.2.next bz); clear HB; have HB : Hid _ := HD.out; clear HD bz; clear d0 d1 e0 e1 g0 g1; obtain ⟨_, d0, d1, _, _⟩ := HB.out.1.cells2; obtain ⟨_, e0, e1, g0, g1⟩ := KN.out _ HB.out.2))
  all_goals
    go_wp2
    try simp only [Exit.inBlock, Exit.then]
    refine bodyPost_ret (v := .agg #[.string a, .string c]) ?_ rfl ?_
    · refine results_cell_row (t := 44) rfl _ _ (w.heap.size + 1) _ (fr := (0, 0)) _ rfl ?_ Tryd.underlying44 rfl infoFd
      rw [bk_set (bk_set (KN.out _ HB.out.2).1 0 _) 1 _]
      rfl
    · exact ⟨rfl, ((After.below HB.out.1).setCell (p := ⟨w.heap.size + 1, 0, none⟩) (by show w.heap.size ≤ w.heap.size + 1; omega) _).setCell (p := ⟨w.heap.size + 1, 1, none⟩) (by show w.heap.size ≤ w.heap.size + 1; omega) _⟩
end Go.Proofs.YtdjflbanbhhniaaDoor
