import Derived.Test.YtpbkigmcbgbfgaaDoorRkT
namespace Go.Proofs.YtpbkigmcbgbfgaaDoor
open Go.RowKit
set_option linter.unusedVariables false

theorem tl_litL (a : ByteArray) (x : Array UInt8) (c : Bool) (h : (a == (⟨x⟩ : ByteArray)) = c) : (x.toList == a.toList) = c := by
  have := tl_litR a x c h
  rw [← this]
  exact Bool.beq_comm
set_option maxHeartbeats 2000000 in
set_option maxRecDepth 20000 in
theorem indexI0 (l : List UInt8) (w : World) (hl : l.length ≤ 1048576) :
    Calls Tryd.prog 37 #[.string (bl l), .string ⟨#[44]⟩] w fun e w' => e = .returned (.int .i64 (if ci l < l.length then (ci l : Int) else -1)) ∧ w' = w := by
  have C := fun u => ibI l u
  have hx : ∀ u : World, (Instr.index 9 (.string ⟨#[44]⟩) (.int .i64 0)).run Tryd.prog u = .ok (.int .u8 44) u := fun u => ixB [44] 0 (by simp) u
  by_cases h : l = [44]
  · have q : (bl l == (⟨#[44]⟩ : ByteArray)) = true := by rw [show (⟨#[44]⟩ : ByteArray) = bl [44] from rfl, bl_eq]; simpa using h
    have q2 : ((⟨#[44]⟩ : ByteArray) == bl l) = true := by rw [show (⟨#[44]⟩ : ByteArray) = bl [44] from rfl, bl_eq]; simpa using h.symm
    have t := tl_litL _ _ _ q
    have e : (if ci l < l.length then (ci l : Int) else -1) = 0 := by rw [h]; rfl
    rw [e]
    generalize bl l = S at *
    clear h e C
    go_enter Tryd.func37, Tryd.ntmps37
    go_wp2
    go_ret
    exact ⟨rfl, rfl⟩
  · have q : (bl l == (⟨#[44]⟩ : ByteArray)) = false := by rw [show (⟨#[44]⟩ : ByteArray) = bl [44] from rfl, bl_eq]; simpa using h
    have q2 : ((⟨#[44]⟩ : ByteArray) == bl l) = false := by rw [show (⟨#[44]⟩ : ByteArray) = bl [44] from rfl, bl_eq]; simpa using fun e => h e.symm
    have t := tl_litL _ _ _ q
    generalize (if ci l < l.length then (ci l : Int) else -1) = I at *
    generalize bl l = S at *
    clear h
    have H : Hid _ := And.intro C True.intro
    clear C
    go_enter Tryd.func37, Tryd.ntmps37
    go_wp2_with (go_at_call 45; refine (H.out.1 _).mono ?_; rintro e w1 ⟨rfl, hw⟩; subst hw)
    go_ret
    exact ⟨rfl, rfl⟩
theorem indexI (l : List UInt8) (w : World) (hl : l.length ≤ 1048576) :
    Calls Tryd.prog 28 #[.string (bl l), .string ⟨#[44]⟩] w fun e w' => e = .returned (.int .i64 (if ci l < l.length then (ci l : Int) else -1)) ∧ w' = w := by
  have C := indexI0 l w hl
  generalize (if ci l < l.length then (ci l : Int) else -1) = I at *
  generalize bl l = S at *
  have H : Hid _ := And.intro C True.intro
  clear C
  go_enter Tryd.func28, Tryd.ntmps28
  go_wp2_with (go_at_call 37; refine H.out.1.mono ?_; rintro e w1 ⟨rfl, hw⟩; subst hw)
  go_ret
  exact ⟨rfl, rfl⟩
/-- The iterator is made: three boxes, the closure. -/
theorem seqI (l : List UInt8) (w : World) :
    Calls Tryd.prog 13 #[.string (bl l), .string ⟨#[44]⟩] w fun e w' => e = .returned (.func (.func 26) #[] #[.pointer (some ⟨w.heap.size + 1, 0, none⟩), .pointer (some ⟨w.heap.size, 0, none⟩), .pointer (some ⟨w.heap.size + 2, 0, none⟩)]) ∧
      w' = ((w.alloc (.cells #[.string (bl l)] 9)).alloc (.cells #[.string ⟨#[44]⟩] 9)).alloc (.cells #[.int .i64 0] 3) := by
  have hmf : ∀ (fn : Fn) (first cap : Array Value) (w : World), (Instr.makeFunc fn first cap).run Tryd.prog w = .ok (.func fn first cap) w := fun _ _ _ _ => rfl
  have C : Calls Tryd.prog 17 #[.string (bl l), .string ⟨#[44]⟩, .int .i64 0] w fun e w' => e = .returned (.func (.func 26) #[] #[.pointer (some ⟨w.heap.size + 1, 0, none⟩), .pointer (some ⟨w.heap.size, 0, none⟩), .pointer (some ⟨w.heap.size + 2, 0, none⟩)]) ∧
      w' = ((w.alloc (.cells #[.string (bl l)] 9)).alloc (.cells #[.string ⟨#[44]⟩] 9)).alloc (.cells #[.int .i64 0] 3) := by
    generalize bl l = S
    go_enter Tryd.func17, Tryd.ntmps17
    go_wp2
    go_ret
    exact ⟨rfl, rfl⟩
  generalize bl l = S at *
  have H : Hid _ := And.intro C True.intro
  clear C
  go_enter Tryd.func13, Tryd.ntmps13
  go_wp2_with (go_at_call 17; refine H.out.1.mono ?_; rintro e w1 ⟨rfl, hw⟩; subst hw)
  go_ret
  exact ⟨rfl, rfl⟩
end Go.Proofs.YtpbkigmcbgbfgaaDoor
