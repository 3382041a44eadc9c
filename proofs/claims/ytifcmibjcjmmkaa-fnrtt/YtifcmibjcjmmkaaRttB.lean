import Derived.Test.YtifcmibjcjmmkaaRttA
namespace Go.Proofs.Ytifcmibjcjmmkaa
open Go.RowKit
set_option linter.unusedVariables false
set_option linter.unusedSimpArgs false

theorem firstC (n : Int) (w : World) (h : 0 ≤ n) (h' : n ≤ 1000000000000) : Calls Try.prog 32 #[.int .i64 n] w fun e w' => e = .returned (rv n n n (n / 2)) ∧ w' = w.alloc (bI n n n (n / 2)) := by
  have hq : n.tdiv 2 = n / 2 := Int.tdiv_eq_ediv_of_nonneg (by omega)
  go_enter Try.func32, Try.ntmps32
  go_wp2
  exact bodyPost_ret (v := rv n n n (n / 2)) (by simp [results, Try.results32, go_sem]) rfl ⟨rfl, rfl⟩
theorem known_t (a b c d : Int) (w : World) (h : zR a b c d) : Calls Try.prog 33 #[rv a b c d] w fun e w' => e = .returned (rv 333000 333000 333000 166500) ∧ w' = ((w.alloc (bI a b c d)).alloc (bI 333000 333000 333000 166500)).alloc (bI 333000 333000 333000 166500) := by
  have eg := egR
  have ez := eqZt a b c d h
  go_enter Try.func33, Try.ntmps33
  go_wp2_with (go_at_call 32; refine (firstC _ _ (by decide) (by decide)).mono ?_; rintro e w' ⟨rfl, rfl⟩)
  exact bodyPost_ret (v := rv 333000 333000 333000 166500) (by simp [results, Try.results33, go_sem]) rfl ⟨rfl, rfl⟩
theorem known_f (a b c d : Int) (w : World) (h : ¬ zR a b c d) : Calls Try.prog 33 #[rv a b c d] w fun e w' => e = .returned (rv a b c d) ∧ w' = (w.alloc (bI a b c d)).alloc (bI a b c d) := by
  have eg := egR
  have ez := eqZf a b c d h
  go_enter Try.func33, Try.ntmps33
  go_wp2
  exact bodyPost_ret (v := rv a b c d) (by simp [results, Try.results33, go_sem]) rfl ⟨rfl, rfl⟩

/-- What LossDelay answers. -/
def ldV (a b c d : Int) : Int := if ¬ okR a b c d then -1 else max ((9 * (if c = 0 then 333000 else max a c)) / 8) 1000
set_option maxHeartbeats 1000000 in
theorem lossS (a b c d : Int) (w : World) : Calls Try.prog 51 #[rv a b c d] w fun e w' => e = .returned (.int .i64 (ldV a b c d)) ∧ Below w.heap.size w w' := by
  have BB : ∀ o1 o2 : Obj, Below w.heap.size w ((w.alloc o1).alloc o2) := fun o1 o2 => ((Below.refl _ _).alloc (Nat.le_refl _) o1).alloc (by simp) o2
  by_cases h : ¬ okR a b c d
  · have hv : ldV a b c d = -1 := by unfold ldV; rw [if_pos h]
    rw [hv]
    go_enter Try.func51, Try.ntmps51
    go_wp2_with (go_at_call 29; refine (rokS_f _ _ _ _ _ h).mono ?_; rintro e w' ⟨rfl, rfl⟩)
    go_ret
    exact ⟨rfl, BB _ _⟩
  have h := Classical.not_not.1 h
  have hr : 0 ≤ a ∧ a ≤ 1000000000000 ∧ 0 ≤ c ∧ c ≤ 1000000000000 := ⟨h.1.1, h.1.2, h.2.2.1.1, h.2.2.1.2⟩
  by_cases hc : c = 0
  · subst hc
    have hv : ldV a b 0 d = 374625 := by unfold ldV; rw [if_neg (by simpa using h), if_pos rfl]; omega
    rw [hv]
    go_enter Try.func51, Try.ntmps51
    go_wp2_with (go_at_call 29; refine (rokS_t _ _ _ _ _ h).mono ?_; rintro e w' ⟨rfl, rfl⟩)
    go_ret
    exact ⟨rfl, BB _ _⟩
  · have hv : ldV a b c d = max (max a c * 9 / 8) 1000 := by unfold ldV; rw [if_neg (by simpa using h), if_neg hc, Int.mul_comm]
    rw [hv]
    have hm : 0 ≤ max a c ∧ max a c ≤ 1000000000000 := by omega
    go_enter Try.func51, Try.ntmps51
    go_wp2_with (go_at_call 29; refine (rokS_t _ _ _ _ _ h).mono ?_; rintro e w' ⟨rfl, rfl⟩)
    go_ret
    exact ⟨rfl, BB _ _⟩
set_option maxHeartbeats 1000000 in
theorem lossI (a b c d : Int) (w : World) : Calls Try.prog 12 #[rv a b c d] w fun e w' => e = .returned (.int .i64 (ldV a b c d)) ∧ Below w.heap.size w w' := by
  by_cases h : ¬ okR a b c d
  · have hv : ldV a b c d = -1 := by unfold ldV; rw [if_pos h]
    rw [hv]
    go_enter Try.func12, Try.ntmps12
    go_wp2_with (go_at_call 31; refine (rokI_f _ _ _ _ _ h).mono ?_; rintro e w' ⟨rfl, rfl⟩)
    go_ret
    exact ⟨rfl, ((Below.refl _ _).alloc (Nat.le_refl _) _).alloc (by simp) _⟩
  have h := Classical.not_not.1 h
  have hr : 0 ≤ a ∧ a ≤ 1000000000000 ∧ 0 ≤ c ∧ c ≤ 1000000000000 := ⟨h.1.1, h.1.2, h.2.2.1.1, h.2.2.1.2⟩
  by_cases hc : zR a b c d
  · have hv : ldV a b c d = 374625 := by unfold ldV; rw [if_neg (by simpa using h), if_pos hc.2.2.1]; omega
    rw [hv]
    go_enter Try.func12, Try.ntmps12
    go_wp2_with (first | (go_at_call 31; refine (rokI_t _ _ _ _ _ h).mono ?_; rintro e w' ⟨rfl, rfl⟩) | (go_at_call 33; refine (known_t _ _ _ _ _ hc).mono ?_; rintro e w' ⟨rfl, rfl⟩))
    go_ret
    refine ⟨rfl, ?_⟩
    repeat (refine Below.alloc ?_ (by simp <;> omega) _)
    exact Below.refl _ _
  · have hz := h.2.2.2.2.resolve_left hc
    have hv : ldV a b c d = max (9 * max a c / 8) 1000 := by unfold ldV; rw [if_neg (by simpa using h), if_neg (by omega)]
    rw [hv]
    have hm : 0 ≤ max a c ∧ max a c ≤ 1000000000000 := by omega
    go_enter Try.func12, Try.ntmps12
    go_wp2_with (first | (go_at_call 31; refine (rokI_t _ _ _ _ _ h).mono ?_; rintro e w' ⟨rfl, rfl⟩) | (go_at_call 33; refine (known_f _ _ _ _ _ hc).mono ?_; rintro e w' ⟨rfl, rfl⟩))
    go_ret
    refine ⟨rfl, ?_⟩
    repeat (refine Below.alloc ?_ (by simp <;> omega) _)
    exact Below.refl _ _
/-- The law's frame: the argument lies in memory, behind it what turned it made; a call was made. -/
theorem after4 {w w1 : World} {o1 o2 o3 o4 : Obj} (h : Below ((((w.alloc o1).alloc o2).alloc o3).alloc o4).heap.size ((((w.alloc o1).alloc o2).alloc o3).alloc o4) w1) :
    Below w.heap.size w w1 ∧ w.heap.size < w1.heap.size ∧ w1.heap[w.heap.size]? = some o1 := by
  refine ⟨(((((Below.refl _ _).alloc (Nat.le_refl _) _).alloc (by simp) o2).alloc (by simp <;> omega) o3).alloc (by simp <;> omega) o4).trans (h.mono (by simp <;> omega)), ?_, ?_⟩
  · have := h.size
    simp at this
    omega
  · rw [h.block _ (by simp <;> omega)]
    have e2 : (((w.alloc o1).alloc o2).alloc o3).heap[w.heap.size]? = some o1 := (bk_new3 w o1 o2 o3).1
    have e3 : ((((w.alloc o1).alloc o2).alloc o3).alloc o4).heap[w.heap.size]? = (((w.alloc o1).alloc o2).alloc o3).heap[w.heap.size]? := ((Below.refl _ _).alloc (Nat.le_refl _) o4).block _ (by simp <;> omega)
    rw [e3, e2]
theorem after3 {w1 w2 : World} {o1 o2 o3 : Obj} (h : Below (((w1.alloc o1).alloc o2).alloc o3).heap.size (((w1.alloc o1).alloc o2).alloc o3) w2) : Below w1.heap.size w1 w2 :=
  ((((Below.refl _ _).alloc (Nat.le_refl _) _).alloc (by simp) o2).alloc (by simp <;> omega) o3).trans (h.mono (by simp <;> omega))
end Go.Proofs.Ytifcmibjcjmmkaa
