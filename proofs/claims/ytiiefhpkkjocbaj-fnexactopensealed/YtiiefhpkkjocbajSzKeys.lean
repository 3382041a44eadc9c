import Derived.Test.YtiiefhpkkjocbajKeys
namespace Go.Proofs.Ytiiefhpkkjocbaj
open Go.RowKit
set_option linter.unusedVariables false

theorem szBytes_fit (v : Value) (xs : List Int) (l : Int) (w : World) (h : Row w .u8 v xs) (h0 : (xs.length : Int) ≤ l) (h1 : l ≤ 9223372036854775807) :
    Calls Try.prog 30 #[v, .int .i64 l] w fun e w' => e = .returned (.int .i64 (l - (xs.length : Int))) ∧ w' = w := by
  obtain ⟨ao, cap, rfl⟩ := h.form
  clear h
  generalize xs.length = n at *
  go_enter Try.func30, Try.ntmps30
  go_wp2
  go_ret
  exact ⟨rfl, rfl⟩
theorem szBytes_over (v : Value) (xs : List Int) (l : Int) (w : World) (h : Row w .u8 v xs) (hx : xs.length ≤ 9223372036854775807) (h0 : l < (xs.length : Int)) (h1 : 0 ≤ l) :
    Calls Try.prog 30 #[v, .int .i64 l] w fun e w' => e = .returned (.int .i64 (-1)) ∧ w' = w := by
  obtain ⟨ao, cap, rfl⟩ := h.form
  clear h
  generalize xs.length = n at *
  go_enter Try.func30, Try.ntmps30
  go_wp2
  go_ret
  exact ⟨rfl, rfl⟩
theorem sz_fit (v : Value) (k : K4) (l : Int) (w : World) (h : KRow w v k) (hs : k.small 9223372036854775807) (hl0 : 0 ≤ l) (hl1 : l ≤ 9223372036854775807) (hf : k.total ≤ l) :
    Calls Try.prog 8 #[v, .int .i64 l] w fun e w' => e = .returned (.int .i64 (l - k.total)) ∧ Below w.heap.size w w' := by
  obtain ⟨v0, v1, v2, v3, rfl, r0, r1, r2, r3⟩ := h
  obtain ⟨s0, s1, s2, s3⟩ := hs
  have e : l - k.total = l - (k.a.length : Int) - (k.b.length : Int) - (k.c.length : Int) - (k.d.length : Int) := by unfold K4.total; omega
  rw [e]
  unfold K4.total at hf
  have WB : Below w.heap.size w (w.alloc (.cells #[v0, v1, v2, v3] 24)) := (Below.refl _ _).alloc (Nat.le_refl _) _
  have h0 := szBytes_fit v0 k.a l _ (r0.below WB) (by omega) (by omega)
  have h1 := szBytes_fit v1 k.b (l - (k.a.length : Int)) _ (r1.below WB) (by omega) (by omega)
  have h2 := szBytes_fit v2 k.c (l - (k.a.length : Int) - (k.b.length : Int)) _ (r2.below WB) (by omega) (by omega)
  have h3 := szBytes_fit v3 k.d (l - (k.a.length : Int) - (k.b.length : Int) - (k.c.length : Int)) _ (r3.below WB) (by omega) (by omega)
  have HW : Hid _ := WB
  clear r0 r1 r2 r3 WB
  generalize k.a.length = n0 at *
  generalize k.b.length = n1 at *
  generalize k.c.length = n2 at *
  generalize k.d.length = n3 at *
  go_enter Try.func8, Try.ntmps8
  go_wp2_with fail
  go_at_call 30
  refine h0.mono ?_
  rintro e w1 ⟨rfl, rfl⟩
  go_wp2_with fail
  go_at_call 30
  refine h1.mono ?_
  rintro e w1 ⟨rfl, rfl⟩
  go_wp2_with fail
  go_at_call 30
  refine h2.mono ?_
  rintro e w1 ⟨rfl, rfl⟩
  go_wp2_with fail
  go_at_call 30
  refine h3.mono ?_
  rintro e w1 ⟨rfl, rfl⟩
  go_wp2
  go_ret
  exact ⟨rfl, HW.out⟩
theorem sz_over1 (v : Value) (k : K4) (l : Int) (w : World) (h : KRow w v k) (hs : k.small 9223372036854775807) (hl0 : 0 ≤ l) (hl1 : l ≤ 9223372036854775807) (c0 : l < (k.a.length : Int)) :
    Calls Try.prog 8 #[v, .int .i64 l] w fun e w' => e = .returned (.int .i64 (-1)) ∧ Below w.heap.size w w' := by
  obtain ⟨v0, v1, v2, v3, rfl, r0, r1, r2, r3⟩ := h
  obtain ⟨s0, s1, s2, s3⟩ := hs
  have WB : Below w.heap.size w (w.alloc (.cells #[v0, v1, v2, v3] 24)) := (Below.refl _ _).alloc (Nat.le_refl _) _
  have h0 := szBytes_over v0 k.a l _ (r0.below WB) s0 (by omega) (by omega)
  have HW : Hid _ := WB
  clear r0 r1 r2 r3 WB
  generalize k.a.length = n0 at *
  generalize k.b.length = n1 at *
  generalize k.c.length = n2 at *
  generalize k.d.length = n3 at *
  go_enter Try.func8, Try.ntmps8
  go_wp2_with fail
  go_at_call 30
  refine h0.mono ?_
  rintro e w1 ⟨rfl, rfl⟩
  go_wp2
  go_ret
  exact ⟨rfl, HW.out⟩
theorem sz_over2 (v : Value) (k : K4) (l : Int) (w : World) (h : KRow w v k) (hs : k.small 9223372036854775807) (hl0 : 0 ≤ l) (hl1 : l ≤ 9223372036854775807) (c0 : (k.a.length : Int) ≤ l) (c1 : l - (k.a.length : Int) < (k.b.length : Int)) :
    Calls Try.prog 8 #[v, .int .i64 l] w fun e w' => e = .returned (.int .i64 (-1)) ∧ Below w.heap.size w w' := by
  obtain ⟨v0, v1, v2, v3, rfl, r0, r1, r2, r3⟩ := h
  obtain ⟨s0, s1, s2, s3⟩ := hs
  have WB : Below w.heap.size w (w.alloc (.cells #[v0, v1, v2, v3] 24)) := (Below.refl _ _).alloc (Nat.le_refl _) _
  have h0 := szBytes_fit v0 k.a l _ (r0.below WB) (by omega) (by omega)
  have h1 := szBytes_over v1 k.b (l - (k.a.length : Int)) _ (r1.below WB) s1 (by omega) (by omega)
  have HW : Hid _ := WB
  clear r0 r1 r2 r3 WB
  generalize k.a.length = n0 at *
  generalize k.b.length = n1 at *
  generalize k.c.length = n2 at *
  generalize k.d.length = n3 at *
  go_enter Try.func8, Try.ntmps8
  go_wp2_with fail
  go_at_call 30
  refine h0.mono ?_
  rintro e w1 ⟨rfl, rfl⟩
  go_wp2_with fail
  go_at_call 30
  refine h1.mono ?_
  rintro e w1 ⟨rfl, rfl⟩
  go_wp2
  go_ret
  exact ⟨rfl, HW.out⟩
theorem sz_over3 (v : Value) (k : K4) (l : Int) (w : World) (h : KRow w v k) (hs : k.small 9223372036854775807) (hl0 : 0 ≤ l) (hl1 : l ≤ 9223372036854775807) (c0 : (k.a.length : Int) ≤ l) (c1 : (k.b.length : Int) ≤ l - (k.a.length : Int)) (c2 : l - (k.a.length : Int) - (k.b.length : Int) < (k.c.length : Int)) :
    Calls Try.prog 8 #[v, .int .i64 l] w fun e w' => e = .returned (.int .i64 (-1)) ∧ Below w.heap.size w w' := by
  obtain ⟨v0, v1, v2, v3, rfl, r0, r1, r2, r3⟩ := h
  obtain ⟨s0, s1, s2, s3⟩ := hs
  have WB : Below w.heap.size w (w.alloc (.cells #[v0, v1, v2, v3] 24)) := (Below.refl _ _).alloc (Nat.le_refl _) _
  have h0 := szBytes_fit v0 k.a l _ (r0.below WB) (by omega) (by omega)
  have h1 := szBytes_fit v1 k.b (l - (k.a.length : Int)) _ (r1.below WB) (by omega) (by omega)
  have h2 := szBytes_over v2 k.c (l - (k.a.length : Int) - (k.b.length : Int)) _ (r2.below WB) s2 (by omega) (by omega)
  have HW : Hid _ := WB
  clear r0 r1 r2 r3 WB
  generalize k.a.length = n0 at *
  generalize k.b.length = n1 at *
  generalize k.c.length = n2 at *
  generalize k.d.length = n3 at *
  go_enter Try.func8, Try.ntmps8
  go_wp2_with fail
  go_at_call 30
  refine h0.mono ?_
  rintro e w1 ⟨rfl, rfl⟩
  go_wp2_with fail
  go_at_call 30
  refine h1.mono ?_
  rintro e w1 ⟨rfl, rfl⟩
  go_wp2_with fail
  go_at_call 30
  refine h2.mono ?_
  rintro e w1 ⟨rfl, rfl⟩
  go_wp2
  go_ret
  exact ⟨rfl, HW.out⟩
theorem sz_over4 (v : Value) (k : K4) (l : Int) (w : World) (h : KRow w v k) (hs : k.small 9223372036854775807) (hl0 : 0 ≤ l) (hl1 : l ≤ 9223372036854775807) (c0 : (k.a.length : Int) ≤ l) (c1 : (k.b.length : Int) ≤ l - (k.a.length : Int)) (c2 : (k.c.length : Int) ≤ l - (k.a.length : Int) - (k.b.length : Int)) (c3 : l - (k.a.length : Int) - (k.b.length : Int) - (k.c.length : Int) < (k.d.length : Int)) :
    Calls Try.prog 8 #[v, .int .i64 l] w fun e w' => e = .returned (.int .i64 (-1)) ∧ Below w.heap.size w w' := by
  obtain ⟨v0, v1, v2, v3, rfl, r0, r1, r2, r3⟩ := h
  obtain ⟨s0, s1, s2, s3⟩ := hs
  have WB : Below w.heap.size w (w.alloc (.cells #[v0, v1, v2, v3] 24)) := (Below.refl _ _).alloc (Nat.le_refl _) _
  have h0 := szBytes_fit v0 k.a l _ (r0.below WB) (by omega) (by omega)
  have h1 := szBytes_fit v1 k.b (l - (k.a.length : Int)) _ (r1.below WB) (by omega) (by omega)
  have h2 := szBytes_fit v2 k.c (l - (k.a.length : Int) - (k.b.length : Int)) _ (r2.below WB) (by omega) (by omega)
  have h3 := szBytes_over v3 k.d (l - (k.a.length : Int) - (k.b.length : Int) - (k.c.length : Int)) _ (r3.below WB) s3 (by omega) (by omega)
  have HW : Hid _ := WB
  clear r0 r1 r2 r3 WB
  generalize k.a.length = n0 at *
  generalize k.b.length = n1 at *
  generalize k.c.length = n2 at *
  generalize k.d.length = n3 at *
  go_enter Try.func8, Try.ntmps8
  go_wp2_with fail
  go_at_call 30
  refine h0.mono ?_
  rintro e w1 ⟨rfl, rfl⟩
  go_wp2_with fail
  go_at_call 30
  refine h1.mono ?_
  rintro e w1 ⟨rfl, rfl⟩
  go_wp2_with fail
  go_at_call 30
  refine h2.mono ?_
  rintro e w1 ⟨rfl, rfl⟩
  go_wp2_with fail
  go_at_call 30
  refine h3.mono ?_
  rintro e w1 ⟨rfl, rfl⟩
  go_wp2
  go_ret
  exact ⟨rfl, HW.out⟩
theorem sz_over (v : Value) (k : K4) (l : Int) (w : World) (h : KRow w v k) (hs : k.small 9223372036854775807) (hl0 : 0 ≤ l) (hl1 : l ≤ 9223372036854775807) (ho : l < k.total) :
    Calls Try.prog 8 #[v, .int .i64 l] w fun e w' => e = .returned (.int .i64 (-1)) ∧ Below w.heap.size w w' := by
  unfold K4.total at ho
  by_cases c0 : l < (k.a.length : Int)
  · exact sz_over1 v k l w h hs hl0 hl1 c0
  · by_cases c1 : l - (k.a.length : Int) < (k.b.length : Int)
    · exact sz_over2 v k l w h hs hl0 hl1 (by omega) c1
    · by_cases c2 : l - (k.a.length : Int) - (k.b.length : Int) < (k.c.length : Int)
      · exact sz_over3 v k l w h hs hl0 hl1 (by omega) (by omega) c2
      · exact sz_over4 v k l w h hs hl0 hl1 (by omega) (by omega) (by omega) (by omega)
end Go.Proofs.Ytiiefhpkkjocbaj
