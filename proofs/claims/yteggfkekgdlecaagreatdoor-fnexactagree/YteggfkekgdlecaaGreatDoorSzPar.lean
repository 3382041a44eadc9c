import Derived.Test.YteggfkekgdlecaaGreatDoorParP
import Derived.Test.YteggfkekgdlecaaGreatDoorSzKeys
namespace Go.Proofs.YteggfkekgdlecaaGreatDoor
open Go.RowKit
set_option linter.unusedVariables false

theorem psz_fit (v : Value) (h : PP) (l : Int) (w : World) (hr : PPRow w v h) (hs : h.small 9223372036854775807) (hl0 : 0 ≤ l) (hl1 : l ≤ 9223372036854775807) (hf : h.total ≤ l) :
    Calls Tryz.prog 19 #[v, .int .i64 l] w fun e w' => e = .returned (.int .i64 (l - h.total)) ∧ Below w.heap.size w w' := by
  have e : l - h.total = l - (h.o.length : Int) - (h.t.length : Int) - (h.f.length : Int) := by unfold PP.total; omega
  rw [e]
  unfold PP.total at hf
  obtain ⟨v0, v1, v2, rfl, r0, r1, r2⟩ := hr
  obtain ⟨s0, s1, s2⟩ := hs
  have WB : Below w.heap.size w (w.alloc (.cells #[.int .i64 h.a0, .int .i64 h.a1, .int .i64 h.a2, .int .i64 h.a3, .int .i64 h.a4, .int .i64 h.a5, .int .i64 h.a6, .int .i64 h.a7, .int .i64 h.a8, .bool h.m, v0, v1, v2] 26)) := (Below.refl _ _).alloc (Nat.le_refl _) _
  have h0 := szBytes_fit v0 h.o (l) _ (r0.below WB) (by omega) (by omega)
  have h1 := szBytes_fit v1 h.t (l - (h.o.length : Int)) _ (r1.below WB) (by omega) (by omega)
  have h2 := szBytes_fit v2 h.f (l - (h.o.length : Int) - (h.t.length : Int)) _ (r2.below WB) (by omega) (by omega)
  have HW : Hid _ := WB
  clear r0 r1 r2 WB
  generalize h.o.length = n0 at *
  generalize h.t.length = n1 at *
  generalize h.f.length = n2 at *
  go_enter Tryz.func19, Tryz.ntmps19
  go_wp2_with fail
  go_at_call 16
  refine h0.mono ?_
  rintro e w1 ⟨rfl, rfl⟩
  go_wp2_with fail
  go_at_call 16
  refine h1.mono ?_
  rintro e w1 ⟨rfl, rfl⟩
  go_wp2_with fail
  go_at_call 16
  refine h2.mono ?_
  rintro e w1 ⟨rfl, rfl⟩
  go_wp2
  go_ret
  exact ⟨rfl, HW.out⟩
theorem psz_over1 (v : Value) (h : PP) (l : Int) (w : World) (hr : PPRow w v h) (hs : h.small 9223372036854775807) (hl0 : 0 ≤ l) (hl1 : l ≤ 9223372036854775807) (c0 : l < (h.o.length : Int)) :
    Calls Tryz.prog 19 #[v, .int .i64 l] w fun e w' => e = .returned (.int .i64 (-1)) ∧ Below w.heap.size w w' := by
  obtain ⟨v0, v1, v2, rfl, r0, r1, r2⟩ := hr
  obtain ⟨s0, s1, s2⟩ := hs
  have WB : Below w.heap.size w (w.alloc (.cells #[.int .i64 h.a0, .int .i64 h.a1, .int .i64 h.a2, .int .i64 h.a3, .int .i64 h.a4, .int .i64 h.a5, .int .i64 h.a6, .int .i64 h.a7, .int .i64 h.a8, .bool h.m, v0, v1, v2] 26)) := (Below.refl _ _).alloc (Nat.le_refl _) _
  have h0 := szBytes_over v0 h.o (l) _ (r0.below WB) s0 (by omega) (by omega)
  have HW : Hid _ := WB
  clear r0 r1 r2 WB
  generalize h.o.length = n0 at *
  generalize h.t.length = n1 at *
  generalize h.f.length = n2 at *
  go_enter Tryz.func19, Tryz.ntmps19
  go_wp2_with fail
  go_at_call 16
  refine h0.mono ?_
  rintro e w1 ⟨rfl, rfl⟩
  go_wp2
  go_ret
  exact ⟨rfl, HW.out⟩
theorem psz_over2 (v : Value) (h : PP) (l : Int) (w : World) (hr : PPRow w v h) (hs : h.small 9223372036854775807) (hl0 : 0 ≤ l) (hl1 : l ≤ 9223372036854775807) (c0 : (h.o.length : Int) ≤ l) (c1 : l - (h.o.length : Int) < (h.t.length : Int)) :
    Calls Tryz.prog 19 #[v, .int .i64 l] w fun e w' => e = .returned (.int .i64 (-1)) ∧ Below w.heap.size w w' := by
  obtain ⟨v0, v1, v2, rfl, r0, r1, r2⟩ := hr
  obtain ⟨s0, s1, s2⟩ := hs
  have WB : Below w.heap.size w (w.alloc (.cells #[.int .i64 h.a0, .int .i64 h.a1, .int .i64 h.a2, .int .i64 h.a3, .int .i64 h.a4, .int .i64 h.a5, .int .i64 h.a6, .int .i64 h.a7, .int .i64 h.a8, .bool h.m, v0, v1, v2] 26)) := (Below.refl _ _).alloc (Nat.le_refl _) _
  have h0 := szBytes_fit v0 h.o (l) _ (r0.below WB) (by omega) (by omega)
  have h1 := szBytes_over v1 h.t (l - (h.o.length : Int)) _ (r1.below WB) s1 (by omega) (by omega)
  have HW : Hid _ := WB
  clear r0 r1 r2 WB
  generalize h.o.length = n0 at *
  generalize h.t.length = n1 at *
  generalize h.f.length = n2 at *
  go_enter Tryz.func19, Tryz.ntmps19
  go_wp2_with fail
  go_at_call 16
  refine h0.mono ?_
  rintro e w1 ⟨rfl, rfl⟩
  go_wp2_with fail
  go_at_call 16
  refine h1.mono ?_
  rintro e w1 ⟨rfl, rfl⟩
  go_wp2
  go_ret
  exact ⟨rfl, HW.out⟩
theorem psz_over3 (v : Value) (h : PP) (l : Int) (w : World) (hr : PPRow w v h) (hs : h.small 9223372036854775807) (hl0 : 0 ≤ l) (hl1 : l ≤ 9223372036854775807) (c0 : (h.o.length : Int) ≤ l) (c1 : (h.t.length : Int) ≤ l - (h.o.length : Int)) (c2 : l - (h.o.length : Int) - (h.t.length : Int) < (h.f.length : Int)) :
    Calls Tryz.prog 19 #[v, .int .i64 l] w fun e w' => e = .returned (.int .i64 (-1)) ∧ Below w.heap.size w w' := by
  obtain ⟨v0, v1, v2, rfl, r0, r1, r2⟩ := hr
  obtain ⟨s0, s1, s2⟩ := hs
  have WB : Below w.heap.size w (w.alloc (.cells #[.int .i64 h.a0, .int .i64 h.a1, .int .i64 h.a2, .int .i64 h.a3, .int .i64 h.a4, .int .i64 h.a5, .int .i64 h.a6, .int .i64 h.a7, .int .i64 h.a8, .bool h.m, v0, v1, v2] 26)) := (Below.refl _ _).alloc (Nat.le_refl _) _
  have h0 := szBytes_fit v0 h.o (l) _ (r0.below WB) (by omega) (by omega)
  have h1 := szBytes_fit v1 h.t (l - (h.o.length : Int)) _ (r1.below WB) (by omega) (by omega)
  have h2 := szBytes_over v2 h.f (l - (h.o.length : Int) - (h.t.length : Int)) _ (r2.below WB) s2 (by omega) (by omega)
  have HW : Hid _ := WB
  clear r0 r1 r2 WB
  generalize h.o.length = n0 at *
  generalize h.t.length = n1 at *
  generalize h.f.length = n2 at *
  go_enter Tryz.func19, Tryz.ntmps19
  go_wp2_with fail
  go_at_call 16
  refine h0.mono ?_
  rintro e w1 ⟨rfl, rfl⟩
  go_wp2_with fail
  go_at_call 16
  refine h1.mono ?_
  rintro e w1 ⟨rfl, rfl⟩
  go_wp2_with fail
  go_at_call 16
  refine h2.mono ?_
  rintro e w1 ⟨rfl, rfl⟩
  go_wp2
  go_ret
  exact ⟨rfl, HW.out⟩
theorem psz_over (v : Value) (h : PP) (l : Int) (w : World) (hr : PPRow w v h) (hs : h.small 9223372036854775807) (hl0 : 0 ≤ l) (hl1 : l ≤ 9223372036854775807) (ho : l < h.total) :
    Calls Tryz.prog 19 #[v, .int .i64 l] w fun e w' => e = .returned (.int .i64 (-1)) ∧ Below w.heap.size w w' := by
  unfold PP.total at ho
  by_cases c0 : l < (h.o.length : Int)
  · exact psz_over1 v h l w hr hs hl0 hl1 c0
  · by_cases c1 : l - (h.o.length : Int) < (h.t.length : Int)
    · exact psz_over2 v h l w hr hs hl0 hl1 (by omega) c1
    · exact psz_over3 v h l w hr hs hl0 hl1 (by omega) (by omega) (by omega)
end Go.Proofs.YteggfkekgdlecaaGreatDoor
