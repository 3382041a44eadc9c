import Derived.Test.YtbbiinbjgognjaaDoorAsJ
namespace Go.Proofs.YtbbiinbjgognjaaDoor
open Go.RowKit
set_option linter.unusedVariables false

/-- The variable errors.errorType, as the program's text lays it. -/
def errT (w : World) : Prop := w.cell? ⟨0, 0, none⟩ = some (.iface 120 (.agg #[.pointer (some ⟨3, 48, none⟩)]))
theorem errT.lt {w : World} (h : errT w) : 0 < w.heap.size := by
  rcases Nat.lt_or_ge 0 w.heap.size with h' | h'
  · exact h'
  · simp [errT, World.cell?, Array.getElem?_eq_none h'] at h
theorem errT.below {w w' : World} {B : Nat} (h : errT w) (hb : Below B w w') (h0 : 0 < B) : errT w' := (hb.cell (p := ⟨0, 0, none⟩) h0).trans h
theorem codeC_nil (w : World) : Calls Tryd.prog 29 #[.nilIface] w fun e w' => e = .returned (.int .i64 0) ∧ Below w.heap.size w w' := by
  have B0 : ∀ o, Below w.heap.size w (w.alloc o) := fun o => (Below.refl _ _).alloc (Nat.le_refl _) o
  go_enter Tryd.func29, Tryd.ntmps29
  go_wp2_with fail
  go_at_call 49
  refine (as_nil _ _).mono ?_
  rintro e w1 ⟨rfl, rfl⟩
  go_wp2_with fail
  go_ret
  exact ⟨rfl, B0 _⟩
set_option maxRecDepth 20000 in
theorem codeC_fault (c : Int) (w : World) (hg : errT w) : Calls Tryd.prog 29 #[faultV c] w fun e w' => e = .returned (.int .i64 c) ∧ Below w.heap.size w w' := by
  have B0 : Below w.heap.size w (w.alloc (.cells #[.int .i64 0] 75)) := (Below.refl _ _).alloc (Nat.le_refl _) _
  have hn := heap_alloc_new w (.cells #[.int .i64 0] 75)
  have h1 := as_hit c w.heap.size (.int .i64 0) _ (hg.below B0 hg.lt) ((bk_cell hn 0).trans rfl) (bk_free hn 0)
  unfold faultV at h1 ⊢
  have HH : Hid _ := And.intro B0 hn
  clear B0 hn hg
  go_enter Tryd.func29, Tryd.ntmps29
  go_wp2_with fail
  go_at_call 49
  refine h1.mono ?_
  rintro e w1 ⟨rfl, hw1⟩
  have hb : Below w.heap.size w w1 := by
    rw [hw1]
    refine Below.setCell (p := ⟨w.heap.size, 0, none⟩) ?_ (Nat.le_refl w.heap.size) _
    exact (((HH.out.1.alloc (by simp) _).alloc (by simp <;> omega) _).alloc (by simp <;> omega) _).alloc (by simp <;> omega) _
  have hc : w1.cell? ⟨w.heap.size, 0, none⟩ = some (.int .i64 c) := by
    rw [hw1]
    have e : ((((((w.alloc (.cells #[.int .i64 0] 75)).alloc (.cells #[.pointer (some ⟨w.heap.size, 0, none⟩)] 77)).alloc (.cells #[.pointer (some ⟨3, 77, none⟩), .pointer (some ⟨(w.alloc (.cells #[.int .i64 0] 75)).heap.size, 0, none⟩), .int .u64 150] 97)).alloc (.cells #[.pointer (some ⟨3, 77, none⟩), .pointer (some ⟨(w.alloc (.cells #[.int .i64 0] 75)).heap.size, 0, none⟩), .int .u64 150] 97)).alloc (.cells #[.int .i64 c] 75)) : World).heap[w.heap.size]? = some (.cells #[.int .i64 0] 75 (0, 0)) := by
      rw [Below.heap_alloc _ _ _ (by simp <;> omega), Below.heap_alloc _ _ _ (by simp <;> omega), Below.heap_alloc _ _ _ (by simp <;> omega), Below.heap_alloc _ _ _ (by simp)]
      exact HH.out.2
    exact (bk_cell (bk_set e 0 (.int .i64 c)) 0).trans rfl
  clear hw1
  go_wp2_with fail
  go_ret
  exact ⟨rfl, hb⟩
def pkShP (xs : List Int) (cl : Int) : Except Int PK :=
  match pkSho xs 1 cl.toNat with
    | .error c => .error c
    | .ok (d, q) => .ok ⟨4, 0, d, [], [], [], q, xs.length⟩
/-- What can be told of the first packet in xs. -/
def pk (xs : List Int) (cl : Int) : Except Int PK :=
  if 65536 < xs.length then .error 4
  else if ¬ (0 ≤ cl ∧ cl ≤ 8) then .error 1
  else if xs.length < 1 then .error 2
  else if vals (sub xs 0 1) < 64 then .error 3
  else if vals (sub xs 0 1) < 128 then pkShP xs cl
  else pkLong xs (vals (sub xs 0 1))
theorem vcl_n (cl : Int) (w : World) (h : ¬ (0 ≤ cl ∧ cl ≤ 8)) : Calls Tryd.prog 44 #[.int .i64 cl] w fun e w' => e = .returned (.bool false) ∧ w' = w := by
  by_cases h0 : 0 ≤ cl
  · have d0 : decide (0 ≤ cl) = true := decide_eq_true h0
    have d1 : decide (cl ≤ 8) = false := decide_eq_false (by omega)
    clear h h0
    go_enter Tryd.func44, Tryd.ntmps44
    go_wp2
    go_ret
    exact ⟨rfl, rfl⟩
  · have d0 : decide (0 ≤ cl) = false := decide_eq_false h0
    clear h h0
    go_enter Tryd.func44, Tryd.ntmps44
    go_wp2
    go_ret
    exact ⟨rfl, rfl⟩
theorem vcl_y (cl : Int) (w : World) (h : 0 ≤ cl ∧ cl ≤ 8) : Calls Tryd.prog 44 #[.int .i64 cl] w fun e w' => e = .returned (.bool true) ∧ w' = w := by
  have d0 : decide (0 ≤ cl) = true := decide_eq_true h.1
  have d1 : decide (cl ≤ 8) = true := decide_eq_true h.2
  clear h
  go_enter Tryd.func44, Tryd.ntmps44
  go_wp2
  go_ret
  exact ⟨rfl, rfl⟩
theorem shortB (f : Int) (w : World) (h0 : 64 ≤ f) : Calls Tryd.prog 46 #[.int .u8 f] w fun e w' => e = .returned (.bool (decide (f < 128))) ∧ w' = w := by
  have d0 : decide (64 ≤ f) = true := decide_eq_true h0
  clear h0
  go_enter Tryd.func46, Tryd.ntmps46
  go_wp2
  go_ret
  exact ⟨rfl, rfl⟩
end Go.Proofs.YtbbiinbjgognjaaDoor
