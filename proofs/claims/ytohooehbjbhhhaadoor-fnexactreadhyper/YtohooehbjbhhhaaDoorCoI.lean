import Derived.Test.YtohooehbjbhhhaaDoorAsJ
namespace Go.Proofs.YtohooehbjbhhhaaDoor
open Go.RowKit
set_option linter.unusedVariables false

/-- The variable errors.errorType, as the program's text lays it. -/
def errT (w : World) : Prop := w.cell? ⟨0, 0, none⟩ = some (.iface 93 (.agg #[.pointer (some ⟨2, 44, none⟩)]))
theorem errT.lt {w : World} (h : errT w) : 0 < w.heap.size := by
  rcases Nat.lt_or_ge 0 w.heap.size with h' | h'
  · exact h'
  · simp [errT, World.cell?, Array.getElem?_eq_none h'] at h
theorem errT.below {w w' : World} {B : Nat} (h : errT w) (hb : Below B w w') (h0 : 0 < B) : errT w' := (hb.cell (p := ⟨0, 0, none⟩) h0).trans h
theorem codeC_nil (w : World) : Calls Tryd.prog 23 #[.nilIface] w fun e w' => e = .returned (.int .i64 0) ∧ Below w.heap.size w w' := by
  have B0 : ∀ o, Below w.heap.size w (w.alloc o) := fun o => (Below.refl _ _).alloc (Nat.le_refl _) o
  go_enter Tryd.func23, Tryd.ntmps23
  go_wp2_with fail
  go_at_call 39
  refine (as_nil _ _).mono ?_
  rintro e w1 ⟨rfl, rfl⟩
  go_wp2_with fail
  go_ret
  exact ⟨rfl, B0 _⟩
set_option maxRecDepth 20000 in
theorem codeC_fault (c : Int) (w : World) (hg : errT w) : Calls Tryd.prog 23 #[faultV c] w fun e w' => e = .returned (.int .i64 c) ∧ Below w.heap.size w w' := by
  have B0 : Below w.heap.size w (w.alloc (.cells #[.int .i64 0] 66)) := (Below.refl _ _).alloc (Nat.le_refl _) _
  have hn := heap_alloc_new w (.cells #[.int .i64 0] 66)
  have h1 := as_hit c w.heap.size (.int .i64 0) _ (hg.below B0 hg.lt) ((bk_cell hn 0).trans rfl) (bk_free hn 0)
  unfold faultV at h1 ⊢
  have HH : Hid _ := And.intro B0 hn
  clear B0 hn hg
  go_enter Tryd.func23, Tryd.ntmps23
  go_wp2_with fail
  go_at_call 39
  refine h1.mono ?_
  rintro e w1 ⟨rfl, hw1⟩
  have hb : Below w.heap.size w w1 := by
    rw [hw1]
    refine Below.setCell (p := ⟨w.heap.size, 0, none⟩) ?_ (Nat.le_refl w.heap.size) _
    exact (((HH.out.1.alloc (by simp) _).alloc (by simp <;> omega) _).alloc (by simp <;> omega) _).alloc (by simp <;> omega) _
  have hc : w1.cell? ⟨w.heap.size, 0, none⟩ = some (.int .i64 c) := by
    rw [hw1]
    have e : ((((((w.alloc (.cells #[.int .i64 0] 66)).alloc (.cells #[.pointer (some ⟨w.heap.size, 0, none⟩)] 68)).alloc (.cells #[.pointer (some ⟨2, 68, none⟩), .pointer (some ⟨(w.alloc (.cells #[.int .i64 0] 66)).heap.size, 0, none⟩), .int .u64 150] 80)).alloc (.cells #[.pointer (some ⟨2, 68, none⟩), .pointer (some ⟨(w.alloc (.cells #[.int .i64 0] 66)).heap.size, 0, none⟩), .int .u64 150] 80)).alloc (.cells #[.int .i64 c] 66)) : World).heap[w.heap.size]? = some (.cells #[.int .i64 0] 66 (0, 0)) := by
      rw [Below.heap_alloc _ _ _ (by simp <;> omega), Below.heap_alloc _ _ _ (by simp <;> omega), Below.heap_alloc _ _ _ (by simp <;> omega), Below.heap_alloc _ _ _ (by simp)]
      exact HH.out.2
    exact (bk_cell (bk_set e 0 (.int .i64 c)) 0).trans rfl
  clear hw1
  go_wp2_with fail
  go_ret
  exact ⟨rfl, hb⟩
end Go.Proofs.YtohooehbjbhhhaaDoor
