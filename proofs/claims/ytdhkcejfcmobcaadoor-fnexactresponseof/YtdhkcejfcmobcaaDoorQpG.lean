import Derived.Test.YtdhkcejfcmobcaaDoorQpF
import Derived.Laws.EntriesVeiled
namespace Go.Proofs.YtdhkcejfcmobcaaDoor
open Go.RowKit
set_option linter.unusedVariables false

/-- A valid response. -/
def rsOK (st : Int) (L : List SField) : Bool := decide (100 ≤ st ∧ st ≤ 599) && mfOK L
theorem cel2 {w u : World} {x0 x1 : Value} {t : TypeId} (hb : Below (w.heap.size + 1) (w.alloc (.cells #[x0, x1] t)) u) : u.cell? ⟨w.heap.size, 0, none⟩ = some x0 ∧ u.cell? ⟨w.heap.size, 1, none⟩ = some x1 := by
  have k := (hb.block w.heap.size (by omega)).trans (MapKept.heap_alloc w (.cells #[x0, x1] t)).1
  simp only [World.cell?, k]
  exact ⟨rfl, rfl⟩
set_option maxHeartbeats 2000000 in
theorem rsS (st : Int) (v : Value) (L : List SField) (w : World) (h : GRow 2 w v (SField.L L)) (hR : L.length ≤ 1048576) (hf : fin L) :
    Calls Tryd.prog 19 #[.agg #[.int .i64 st, v]] w fun e w' => e = .returned (.bool (rsOK st L)) ∧ Below w.heap.size w w' := by
  obtain ⟨N, eN⟩ : ∃ N, N = rsOK st L := ⟨_, rfl⟩
  rw [← eN]
  unfold rsOK at eN
  have b0 : Below w.heap.size w (w.alloc (.cells #[.int .i64 st, v] 30)) := (Below.refl _ _).alloc (Nat.le_refl _) _
  have C := mfS v L _ (h.below b0) hR hf
  obtain ⟨ao, cp, rfl⟩ := frow_form h
  obtain ⟨n, en⟩ : ∃ n, n = L.length := ⟨_, rfl⟩
  rw [← en] at C b0 ⊢
  obtain ⟨M, eM⟩ : ∃ M, M = mfOK L := ⟨_, rfl⟩
  rw [← eM] at C eN
  have H : Hid _ := And.intro C b0
  clear C b0 h hR hf en eM
  by_cases h1 : 100 ≤ st
  · by_cases h2 : st ≤ 599
    · rw [decide_eq_true ⟨h1, h2⟩, Bool.true_and] at eN
      have HN : Hid _ := And.intro eN True.intro
      clear eN
      go_enter Tryd.func19, Tryd.ntmps19
      go_wp2_with fail
      go_at_call 33
      refine H.out.1.mono ?_
      rintro e w1 ⟨rfl, b1⟩
      have H1 : Hid _ := And.intro (H.out.2.trans (b1.mono H.out.2.size)) True.intro
      clear b1
      go_wp2
      go_ret
      exact ⟨by rw [HN.out.1]; rfl, H1.out.1⟩
    · rw [decide_eq_false (fun q => h2 q.2), Bool.false_and] at eN
      have HN : Hid _ := And.intro eN True.intro
      clear eN
      go_enter Tryd.func19, Tryd.ntmps19
      go_wp2
      go_ret
      exact ⟨by rw [HN.out.1]; rfl, H.out.2⟩
  · rw [decide_eq_false (fun q => h1 q.1), Bool.false_and] at eN
    have HN : Hid _ := And.intro eN True.intro
    clear eN
    go_enter Tryd.func19, Tryd.ntmps19
    go_wp2
    go_ret
    exact ⟨by rw [HN.out.1]; rfl, H.out.2⟩
theorem vstI (st : Int) (v : Value) (w : World) : Calls Tryd.prog 35 #[.agg #[.int .i64 st, v]] w fun e w' => e = .returned (.bool (decide (100 ≤ st ∧ st ≤ 599))) ∧ Below w.heap.size w w' := by
  have b0 : Below w.heap.size w (w.alloc (.cells #[.int .i64 st, v] 30)) := (Below.refl _ _).alloc (Nat.le_refl _) _
  have H : Hid _ := And.intro b0 True.intro
  clear b0
  by_cases h1 : 100 ≤ st
  · have e : decide (100 ≤ st ∧ st ≤ 599) = decide (st ≤ 599) := by simp [h1]
    rw [e]
    clear e
    go_enter Tryd.func35, Tryd.ntmps35
    go_wp2
    go_ret
    exact ⟨rfl, H.out.1⟩
  · have e : decide (100 ≤ st ∧ st ≤ 599) = false := by simp [h1]
    rw [e]
    clear e
    go_enter Tryd.func35, Tryd.ntmps35
    go_wp2
    go_ret
    exact ⟨rfl, H.out.1⟩
end Go.Proofs.YtdhkcejfcmobcaaDoor
