import Derived.Test.YtiiefhpkkjocbakDoorHead8
import Derived.Test.YtiiefhpkkjocbakDoorSzKeys
namespace Go.Proofs.YtiiefhpkkjocbakDoor
open Go.RowKit
set_option linter.unusedVariables false

theorem hsz_fit (v : Value) (h : H8) (l : Int) (w : World) (hr : HRow w v h) (hs : h.small 9223372036854775807) (hl0 : 0 ≤ l) (hl1 : l ≤ 9223372036854775807) (hf : h.total ≤ l) :
    Calls Tryd.prog 15 #[v, .int .i64 l] w fun e w' => e = .returned (.int .i64 (l - h.total)) ∧ Below w.heap.size w w' := by
  have e : l - h.total = l - (h.d.length : Int) - (h.s.length : Int) - (h.t.length : Int) := by unfold H8.total; omega
  rw [e]
  unfold H8.total at hf
  obtain ⟨v0, v1, v2, rfl, r0, r1, r2⟩ := hr
  obtain ⟨s0, s1, s2⟩ := hs
  have WB : Below w.heap.size w (w.alloc (.cells #[.int .i64 h.f, .int .i64 h.v, v0, v1, v2, .int .i64 h.n, .int .i64 h.l, .int .i64 h.p] 32)) := (Below.refl _ _).alloc (Nat.le_refl _) _
  have h0 := szBytes_fit v0 h.d (l) _ (r0.below WB) (by omega) (by omega)
  have h1 := szBytes_fit v1 h.s (l - (h.d.length : Int)) _ (r1.below WB) (by omega) (by omega)
  have h2 := szBytes_fit v2 h.t (l - (h.d.length : Int) - (h.s.length : Int)) _ (r2.below WB) (by omega) (by omega)
  have HW : Hid _ := WB
  clear r0 r1 r2 WB
  generalize h.d.length = n0 at *
  generalize h.s.length = n1 at *
  generalize h.t.length = n2 at *
  go_enter Tryd.func15, Tryd.ntmps15
  go_wp2_with fail
  go_at_call 33
  refine h0.mono ?_
  rintro e w1 ⟨rfl, rfl⟩
  go_wp2_with fail
  go_at_call 33
  refine h1.mono ?_
  rintro e w1 ⟨rfl, rfl⟩
  go_wp2_with fail
  go_at_call 33
  refine h2.mono ?_
  rintro e w1 ⟨rfl, rfl⟩
  go_wp2
  go_ret
  exact ⟨rfl, HW.out⟩
theorem hsz_over1 (v : Value) (h : H8) (l : Int) (w : World) (hr : HRow w v h) (hs : h.small 9223372036854775807) (hl0 : 0 ≤ l) (hl1 : l ≤ 9223372036854775807) (c0 : l < (h.d.length : Int)) :
    Calls Tryd.prog 15 #[v, .int .i64 l] w fun e w' => e = .returned (.int .i64 (-1)) ∧ Below w.heap.size w w' := by
  obtain ⟨v0, v1, v2, rfl, r0, r1, r2⟩ := hr
  obtain ⟨s0, s1, s2⟩ := hs
  have WB : Below w.heap.size w (w.alloc (.cells #[.int .i64 h.f, .int .i64 h.v, v0, v1, v2, .int .i64 h.n, .int .i64 h.l, .int .i64 h.p] 32)) := (Below.refl _ _).alloc (Nat.le_refl _) _
  have h0 := szBytes_over v0 h.d (l) _ (r0.below WB) s0 (by omega) (by omega)
  have HW : Hid _ := WB
  clear r0 r1 r2 WB
  generalize h.d.length = n0 at *
  generalize h.s.length = n1 at *
  generalize h.t.length = n2 at *
  go_enter Tryd.func15, Tryd.ntmps15
  go_wp2_with fail
  go_at_call 33
  refine h0.mono ?_
  rintro e w1 ⟨rfl, rfl⟩
  go_wp2
  go_ret
  exact ⟨rfl, HW.out⟩
theorem hsz_over2 (v : Value) (h : H8) (l : Int) (w : World) (hr : HRow w v h) (hs : h.small 9223372036854775807) (hl0 : 0 ≤ l) (hl1 : l ≤ 9223372036854775807) (c0 : (h.d.length : Int) ≤ l) (c1 : l - (h.d.length : Int) < (h.s.length : Int)) :
    Calls Tryd.prog 15 #[v, .int .i64 l] w fun e w' => e = .returned (.int .i64 (-1)) ∧ Below w.heap.size w w' := by
  obtain ⟨v0, v1, v2, rfl, r0, r1, r2⟩ := hr
  obtain ⟨s0, s1, s2⟩ := hs
  have WB : Below w.heap.size w (w.alloc (.cells #[.int .i64 h.f, .int .i64 h.v, v0, v1, v2, .int .i64 h.n, .int .i64 h.l, .int .i64 h.p] 32)) := (Below.refl _ _).alloc (Nat.le_refl _) _
  have h0 := szBytes_fit v0 h.d (l) _ (r0.below WB) (by omega) (by omega)
  have h1 := szBytes_over v1 h.s (l - (h.d.length : Int)) _ (r1.below WB) s1 (by omega) (by omega)
  have HW : Hid _ := WB
  clear r0 r1 r2 WB
  generalize h.d.length = n0 at *
  generalize h.s.length = n1 at *
  generalize h.t.length = n2 at *
  go_enter Tryd.func15, Tryd.ntmps15
  go_wp2_with fail
  go_at_call 33
  refine h0.mono ?_
  rintro e w1 ⟨rfl, rfl⟩
  go_wp2_with fail
  go_at_call 33
  refine h1.mono ?_
  rintro e w1 ⟨rfl, rfl⟩
  go_wp2
  go_ret
  exact ⟨rfl, HW.out⟩
theorem hsz_over3 (v : Value) (h : H8) (l : Int) (w : World) (hr : HRow w v h) (hs : h.small 9223372036854775807) (hl0 : 0 ≤ l) (hl1 : l ≤ 9223372036854775807) (c0 : (h.d.length : Int) ≤ l) (c1 : (h.s.length : Int) ≤ l - (h.d.length : Int)) (c2 : l - (h.d.length : Int) - (h.s.length : Int) < (h.t.length : Int)) :
    Calls Tryd.prog 15 #[v, .int .i64 l] w fun e w' => e = .returned (.int .i64 (-1)) ∧ Below w.heap.size w w' := by
  obtain ⟨v0, v1, v2, rfl, r0, r1, r2⟩ := hr
  obtain ⟨s0, s1, s2⟩ := hs
  have WB : Below w.heap.size w (w.alloc (.cells #[.int .i64 h.f, .int .i64 h.v, v0, v1, v2, .int .i64 h.n, .int .i64 h.l, .int .i64 h.p] 32)) := (Below.refl _ _).alloc (Nat.le_refl _) _
  have h0 := szBytes_fit v0 h.d (l) _ (r0.below WB) (by omega) (by omega)
  have h1 := szBytes_fit v1 h.s (l - (h.d.length : Int)) _ (r1.below WB) (by omega) (by omega)
  have h2 := szBytes_over v2 h.t (l - (h.d.length : Int) - (h.s.length : Int)) _ (r2.below WB) s2 (by omega) (by omega)
  have HW : Hid _ := WB
  clear r0 r1 r2 WB
  generalize h.d.length = n0 at *
  generalize h.s.length = n1 at *
  generalize h.t.length = n2 at *
  go_enter Tryd.func15, Tryd.ntmps15
  go_wp2_with fail
  go_at_call 33
  refine h0.mono ?_
  rintro e w1 ⟨rfl, rfl⟩
  go_wp2_with fail
  go_at_call 33
  refine h1.mono ?_
  rintro e w1 ⟨rfl, rfl⟩
  go_wp2_with fail
  go_at_call 33
  refine h2.mono ?_
  rintro e w1 ⟨rfl, rfl⟩
  go_wp2
  go_ret
  exact ⟨rfl, HW.out⟩
theorem hsz_over (v : Value) (h : H8) (l : Int) (w : World) (hr : HRow w v h) (hs : h.small 9223372036854775807) (hl0 : 0 ≤ l) (hl1 : l ≤ 9223372036854775807) (ho : l < h.total) :
    Calls Tryd.prog 15 #[v, .int .i64 l] w fun e w' => e = .returned (.int .i64 (-1)) ∧ Below w.heap.size w w' := by
  unfold H8.total at ho
  by_cases c0 : l < (h.d.length : Int)
  · exact hsz_over1 v h l w hr hs hl0 hl1 c0
  · by_cases c1 : l - (h.d.length : Int) < (h.s.length : Int)
    · exact hsz_over2 v h l w hr hs hl0 hl1 (by omega) c1
    · exact hsz_over3 v h l w hr hs hl0 hl1 (by omega) (by omega) (by omega)
end Go.Proofs.YtiiefhpkkjocbakDoor
