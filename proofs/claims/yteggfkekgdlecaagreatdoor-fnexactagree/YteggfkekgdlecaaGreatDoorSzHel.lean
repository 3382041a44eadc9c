import Derived.Test.YteggfkekgdlecaaGreatDoorHelP
import Derived.Test.YteggfkekgdlecaaGreatDoorSzPar
namespace Go.Proofs.YteggfkekgdlecaaGreatDoor
open Go.RowKit
set_option linter.unusedVariables false

theorem szInts_fit (v : Value) (xs : List Int) (l : Int) (w : World) (h : Row w .i64 v xs) (h0 : (xs.length : Int) ≤ l) (h1 : l ≤ 9223372036854775807) :
    Calls Tryz.prog 17 #[v, .int .i64 l] w fun e w' => e = .returned (.int .i64 (l - (xs.length : Int))) ∧ w' = w := by
  obtain ⟨ao, cap, rfl⟩ := h.form
  clear h
  generalize xs.length = n at *
  go_enter Tryz.func17, Tryz.ntmps17
  go_wp2
  go_ret
  exact ⟨rfl, rfl⟩
theorem szInts_over (v : Value) (xs : List Int) (l : Int) (w : World) (h : Row w .i64 v xs) (hx : xs.length ≤ 9223372036854775807) (h0 : l < (xs.length : Int)) (h1 : 0 ≤ l) :
    Calls Tryz.prog 17 #[v, .int .i64 l] w fun e w' => e = .returned (.int .i64 (-1)) ∧ w' = w := by
  obtain ⟨ao, cap, rfl⟩ := h.form
  clear h
  generalize xs.length = n at *
  go_enter Tryz.func17, Tryz.ntmps17
  go_wp2
  go_ret
  exact ⟨rfl, rfl⟩
theorem ttot_nn (L : List ByteArray) : 0 ≤ ttot L := by unfold ttot; omega
theorem pptot_nn (p : PP) : 0 ≤ p.total := by unfold PP.total; omega
set_option maxRecDepth 20000 in
set_option maxHeartbeats 1000000 in
theorem hesz_over0 (v : Value) (h : HE) (l : Int) (w : World) (hr : HERow w v h) (hs : h.small 9223372036854775807) (hx : h.texts 9223372036854775807) (hl0 : 0 ≤ l) (hl1 : l ≤ 9223372036854775807) (c0 : l < (h.rnd.length : Int)) :
    Calls Tryz.prog 4 #[v, .int .i64 l] w fun e w' => e = .returned (.int .i64 (-1)) ∧ Below w.heap.size w w' := by
  obtain ⟨v0, v1, v2, v3, v4, v5, rfl, r0, r1, r2, r3, r4, r5⟩ := hr
  have PR : PPRow w (.agg #[.int .i64 h.par.a0, .int .i64 h.par.a1, .int .i64 h.par.a2, .int .i64 h.par.a3, .int .i64 h.par.a4, .int .i64 h.par.a5, .int .i64 h.par.a6, .int .i64 h.par.a7, .int .i64 h.par.a8, .bool h.par.m, v3, v4, v5]) h.par := ⟨v3, v4, v5, rfl, r3, r4, r5⟩
  have WB : Below w.heap.size w (w.alloc (.cells #[.int .i64 h.kd, .int .i64 h.vr, v0, v1, v2, .int .i64 h.par.a0, .int .i64 h.par.a1, .int .i64 h.par.a2, .int .i64 h.par.a3, .int .i64 h.par.a4, .int .i64 h.par.a5, .int .i64 h.par.a6, .int .i64 h.par.a7, .int .i64 h.par.a8, .bool h.par.m, v3, v4, v5] 28)) := (Below.refl _ _).alloc (Nat.le_refl _) _
  have n2 := ttot_nn h.nms
  have n3 := pptot_nn h.par
  have k0 := szBytes_over v0 h.rnd l _ (r0.below WB) hs.1 (by omega) (by omega)
  have HW : Hid _ := And.intro WB True.intro
  have HK0 : Hid _ := And.intro k0 True.intro
  clear r0 r1 r2 r3 r4 r5 PR WB k0 hs hx
  generalize h.rnd.length = n10 at *
  generalize h.vers.length = n11 at *
  generalize ttot h.nms = n12 at *
  generalize h.par.total = n13 at *
  go_enter Tryz.func4, Tryz.ntmps4
  go_wp2_with fail
  go_at_call 16
  refine HK0.out.1.mono ?_
  rintro e w1 ⟨rfl, rfl⟩
  go_wp2
  go_ret
  exact ⟨rfl, HW.out.1⟩
set_option maxRecDepth 20000 in
set_option maxHeartbeats 1000000 in
theorem hesz_over1 (v : Value) (h : HE) (l : Int) (w : World) (hr : HERow w v h) (hs : h.small 9223372036854775807) (hx : h.texts 9223372036854775807) (hl0 : 0 ≤ l) (hl1 : l ≤ 9223372036854775807) (c0 : (h.rnd.length : Int) ≤ l) (c1 : l - (h.rnd.length : Int) < (h.vers.length : Int)) :
    Calls Tryz.prog 4 #[v, .int .i64 l] w fun e w' => e = .returned (.int .i64 (-1)) ∧ Below w.heap.size w w' := by
  obtain ⟨v0, v1, v2, v3, v4, v5, rfl, r0, r1, r2, r3, r4, r5⟩ := hr
  have PR : PPRow w (.agg #[.int .i64 h.par.a0, .int .i64 h.par.a1, .int .i64 h.par.a2, .int .i64 h.par.a3, .int .i64 h.par.a4, .int .i64 h.par.a5, .int .i64 h.par.a6, .int .i64 h.par.a7, .int .i64 h.par.a8, .bool h.par.m, v3, v4, v5]) h.par := ⟨v3, v4, v5, rfl, r3, r4, r5⟩
  have WB : Below w.heap.size w (w.alloc (.cells #[.int .i64 h.kd, .int .i64 h.vr, v0, v1, v2, .int .i64 h.par.a0, .int .i64 h.par.a1, .int .i64 h.par.a2, .int .i64 h.par.a3, .int .i64 h.par.a4, .int .i64 h.par.a5, .int .i64 h.par.a6, .int .i64 h.par.a7, .int .i64 h.par.a8, .bool h.par.m, v3, v4, v5] 28)) := (Below.refl _ _).alloc (Nat.le_refl _) _
  have n2 := ttot_nn h.nms
  have n3 := pptot_nn h.par
  have k0 := szBytes_fit v0 h.rnd l _ (r0.below WB) (by omega) (by omega)
  have k1 := szInts_over v1 h.vers (l - (h.rnd.length : Int)) _ (r1.below WB) hs.2.1 (by omega) (by omega)
  have HW : Hid _ := And.intro WB True.intro
  have HK0 : Hid _ := And.intro k0 True.intro
  have HK1 : Hid _ := And.intro k1 True.intro
  clear r0 r1 r2 r3 r4 r5 PR WB k0 k1 hs hx
  generalize h.rnd.length = n10 at *
  generalize h.vers.length = n11 at *
  generalize ttot h.nms = n12 at *
  generalize h.par.total = n13 at *
  go_enter Tryz.func4, Tryz.ntmps4
  go_wp2_with fail
  go_at_call 16
  refine HK0.out.1.mono ?_
  rintro e w1 ⟨rfl, rfl⟩
  go_wp2_with fail
  go_at_call 17
  refine HK1.out.1.mono ?_
  rintro e w1 ⟨rfl, rfl⟩
  go_wp2
  go_ret
  exact ⟨rfl, HW.out.1⟩
set_option maxRecDepth 20000 in
set_option maxHeartbeats 1000000 in
theorem hesz_over2 (v : Value) (h : HE) (l : Int) (w : World) (hr : HERow w v h) (hs : h.small 9223372036854775807) (hx : h.texts 9223372036854775807) (hl0 : 0 ≤ l) (hl1 : l ≤ 9223372036854775807) (c0 : (h.rnd.length : Int) ≤ l) (c1 : (h.vers.length : Int) ≤ l - (h.rnd.length : Int)) (c2 : l - (h.rnd.length : Int) - (h.vers.length : Int) < ttot h.nms) :
    Calls Tryz.prog 4 #[v, .int .i64 l] w fun e w' => e = .returned (.int .i64 (-1)) ∧ Below w.heap.size w w' := by
  obtain ⟨v0, v1, v2, v3, v4, v5, rfl, r0, r1, r2, r3, r4, r5⟩ := hr
  have PR : PPRow w (.agg #[.int .i64 h.par.a0, .int .i64 h.par.a1, .int .i64 h.par.a2, .int .i64 h.par.a3, .int .i64 h.par.a4, .int .i64 h.par.a5, .int .i64 h.par.a6, .int .i64 h.par.a7, .int .i64 h.par.a8, .bool h.par.m, v3, v4, v5]) h.par := ⟨v3, v4, v5, rfl, r3, r4, r5⟩
  have WB : Below w.heap.size w (w.alloc (.cells #[.int .i64 h.kd, .int .i64 h.vr, v0, v1, v2, .int .i64 h.par.a0, .int .i64 h.par.a1, .int .i64 h.par.a2, .int .i64 h.par.a3, .int .i64 h.par.a4, .int .i64 h.par.a5, .int .i64 h.par.a6, .int .i64 h.par.a7, .int .i64 h.par.a8, .bool h.par.m, v3, v4, v5] 28)) := (Below.refl _ _).alloc (Nat.le_refl _) _
  have n2 := ttot_nn h.nms
  have n3 := pptot_nn h.par
  have k0 := szBytes_fit v0 h.rnd l _ (r0.below WB) (by omega) (by omega)
  have k1 := szInts_fit v1 h.vers (l - (h.rnd.length : Int)) _ (r1.below WB) (by omega) (by omega)
  have k2 := szStrs v2 h.nms (l - (h.rnd.length : Int) - (h.vers.length : Int)) _ (r2.below WB) hs.2.2.1 hx (by omega) (by omega)
  rw [if_neg (by omega)] at k2
  have HW : Hid _ := And.intro WB True.intro
  have HK0 : Hid _ := And.intro k0 True.intro
  have HK1 : Hid _ := And.intro k1 True.intro
  have HK2 : Hid _ := And.intro k2 True.intro
  clear r0 r1 r2 r3 r4 r5 PR WB k0 k1 k2 hs hx
  generalize h.rnd.length = n10 at *
  generalize h.vers.length = n11 at *
  generalize ttot h.nms = n12 at *
  generalize h.par.total = n13 at *
  go_enter Tryz.func4, Tryz.ntmps4
  go_wp2_with fail
  go_at_call 16
  refine HK0.out.1.mono ?_
  rintro e w1 ⟨rfl, rfl⟩
  go_wp2_with fail
  go_at_call 17
  refine HK1.out.1.mono ?_
  rintro e w1 ⟨rfl, rfl⟩
  go_wp2_with fail
  go_at_call 18
  refine HK2.out.1.mono ?_
  rintro e w1 ⟨rfl, rfl⟩
  go_wp2
  go_ret
  exact ⟨rfl, HW.out.1⟩
set_option maxRecDepth 20000 in
set_option maxHeartbeats 1000000 in
theorem hesz_over3 (v : Value) (h : HE) (l : Int) (w : World) (hr : HERow w v h) (hs : h.small 9223372036854775807) (hx : h.texts 9223372036854775807) (hl0 : 0 ≤ l) (hl1 : l ≤ 9223372036854775807) (c0 : (h.rnd.length : Int) ≤ l) (c1 : (h.vers.length : Int) ≤ l - (h.rnd.length : Int)) (c2 : ttot h.nms ≤ l - (h.rnd.length : Int) - (h.vers.length : Int)) (c3 : l - (h.rnd.length : Int) - (h.vers.length : Int) - ttot h.nms < h.par.total) :
    Calls Tryz.prog 4 #[v, .int .i64 l] w fun e w' => e = .returned (.int .i64 (-1)) ∧ Below w.heap.size w w' := by
  obtain ⟨v0, v1, v2, v3, v4, v5, rfl, r0, r1, r2, r3, r4, r5⟩ := hr
  have PR : PPRow w (.agg #[.int .i64 h.par.a0, .int .i64 h.par.a1, .int .i64 h.par.a2, .int .i64 h.par.a3, .int .i64 h.par.a4, .int .i64 h.par.a5, .int .i64 h.par.a6, .int .i64 h.par.a7, .int .i64 h.par.a8, .bool h.par.m, v3, v4, v5]) h.par := ⟨v3, v4, v5, rfl, r3, r4, r5⟩
  have WB : Below w.heap.size w (w.alloc (.cells #[.int .i64 h.kd, .int .i64 h.vr, v0, v1, v2, .int .i64 h.par.a0, .int .i64 h.par.a1, .int .i64 h.par.a2, .int .i64 h.par.a3, .int .i64 h.par.a4, .int .i64 h.par.a5, .int .i64 h.par.a6, .int .i64 h.par.a7, .int .i64 h.par.a8, .bool h.par.m, v3, v4, v5] 28)) := (Below.refl _ _).alloc (Nat.le_refl _) _
  have n2 := ttot_nn h.nms
  have n3 := pptot_nn h.par
  have k0 := szBytes_fit v0 h.rnd l _ (r0.below WB) (by omega) (by omega)
  have k1 := szInts_fit v1 h.vers (l - (h.rnd.length : Int)) _ (r1.below WB) (by omega) (by omega)
  have k2 := szStrs v2 h.nms (l - (h.rnd.length : Int) - (h.vers.length : Int)) _ (r2.below WB) hs.2.2.1 hx (by omega) (by omega)
  rw [if_pos c2] at k2
  have k3 := psz_over _ h.par (l - (h.rnd.length : Int) - (h.vers.length : Int) - ttot h.nms) _ (PR.below WB) hs.2.2.2 (by omega) (by omega) (by omega)
  have HW : Hid _ := And.intro WB True.intro
  have HK0 : Hid _ := And.intro k0 True.intro
  have HK1 : Hid _ := And.intro k1 True.intro
  have HK2 : Hid _ := And.intro k2 True.intro
  have HK3 : Hid _ := And.intro k3 True.intro
  clear r0 r1 r2 r3 r4 r5 PR WB k0 k1 k2 k3 hs hx
  generalize h.rnd.length = n10 at *
  generalize h.vers.length = n11 at *
  generalize ttot h.nms = n12 at *
  generalize h.par.total = n13 at *
  go_enter Tryz.func4, Tryz.ntmps4
  go_wp2_with fail
  go_at_call 16
  refine HK0.out.1.mono ?_
  rintro e w1 ⟨rfl, rfl⟩
  go_wp2_with fail
  go_at_call 17
  refine HK1.out.1.mono ?_
  rintro e w1 ⟨rfl, rfl⟩
  go_wp2_with fail
  go_at_call 18
  refine HK2.out.1.mono ?_
  rintro e w1 ⟨rfl, rfl⟩
  go_wp2_with fail
  go_at_call 19
  refine HK3.out.1.mono ?_
  rintro e w1 ⟨rfl, b1⟩
  have HB : Hid _ := And.intro (HW.out.1.trans (b1.mono HW.out.1.size)) True.intro
  clear b1
  go_wp2
  go_ret
  exact ⟨rfl, HB.out.1⟩
set_option maxRecDepth 20000 in
set_option maxHeartbeats 1000000 in
theorem hesz_fit (v : Value) (h : HE) (l : Int) (w : World) (hr : HERow w v h) (hs : h.small 9223372036854775807) (hx : h.texts 9223372036854775807) (hl0 : 0 ≤ l) (hl1 : l ≤ 9223372036854775807) (c0 : (h.rnd.length : Int) ≤ l) (c1 : (h.vers.length : Int) ≤ l - (h.rnd.length : Int)) (c2 : ttot h.nms ≤ l - (h.rnd.length : Int) - (h.vers.length : Int)) (c3 : h.par.total ≤ l - (h.rnd.length : Int) - (h.vers.length : Int) - ttot h.nms) :
    Calls Tryz.prog 4 #[v, .int .i64 l] w fun e w' => e = .returned (.int .i64 (l - (h.rnd.length : Int) - (h.vers.length : Int) - ttot h.nms - h.par.total)) ∧ Below w.heap.size w w' := by
  obtain ⟨v0, v1, v2, v3, v4, v5, rfl, r0, r1, r2, r3, r4, r5⟩ := hr
  have PR : PPRow w (.agg #[.int .i64 h.par.a0, .int .i64 h.par.a1, .int .i64 h.par.a2, .int .i64 h.par.a3, .int .i64 h.par.a4, .int .i64 h.par.a5, .int .i64 h.par.a6, .int .i64 h.par.a7, .int .i64 h.par.a8, .bool h.par.m, v3, v4, v5]) h.par := ⟨v3, v4, v5, rfl, r3, r4, r5⟩
  have WB : Below w.heap.size w (w.alloc (.cells #[.int .i64 h.kd, .int .i64 h.vr, v0, v1, v2, .int .i64 h.par.a0, .int .i64 h.par.a1, .int .i64 h.par.a2, .int .i64 h.par.a3, .int .i64 h.par.a4, .int .i64 h.par.a5, .int .i64 h.par.a6, .int .i64 h.par.a7, .int .i64 h.par.a8, .bool h.par.m, v3, v4, v5] 28)) := (Below.refl _ _).alloc (Nat.le_refl _) _
  have n2 := ttot_nn h.nms
  have n3 := pptot_nn h.par
  have k0 := szBytes_fit v0 h.rnd l _ (r0.below WB) (by omega) (by omega)
  have k1 := szInts_fit v1 h.vers (l - (h.rnd.length : Int)) _ (r1.below WB) (by omega) (by omega)
  have k2 := szStrs v2 h.nms (l - (h.rnd.length : Int) - (h.vers.length : Int)) _ (r2.below WB) hs.2.2.1 hx (by omega) (by omega)
  rw [if_pos c2] at k2
  have k3 := psz_fit _ h.par (l - (h.rnd.length : Int) - (h.vers.length : Int) - ttot h.nms) _ (PR.below WB) hs.2.2.2 (by omega) (by omega) (by omega)
  have HW : Hid _ := And.intro WB True.intro
  have HK0 : Hid _ := And.intro k0 True.intro
  have HK1 : Hid _ := And.intro k1 True.intro
  have HK2 : Hid _ := And.intro k2 True.intro
  have HK3 : Hid _ := And.intro k3 True.intro
  clear r0 r1 r2 r3 r4 r5 PR WB k0 k1 k2 k3 hs hx
  generalize h.rnd.length = n10 at *
  generalize h.vers.length = n11 at *
  generalize ttot h.nms = n12 at *
  generalize h.par.total = n13 at *
  go_enter Tryz.func4, Tryz.ntmps4
  go_wp2_with fail
  go_at_call 16
  refine HK0.out.1.mono ?_
  rintro e w1 ⟨rfl, rfl⟩
  go_wp2_with fail
  go_at_call 17
  refine HK1.out.1.mono ?_
  rintro e w1 ⟨rfl, rfl⟩
  go_wp2_with fail
  go_at_call 18
  refine HK2.out.1.mono ?_
  rintro e w1 ⟨rfl, rfl⟩
  go_wp2_with fail
  go_at_call 19
  refine HK3.out.1.mono ?_
  rintro e w1 ⟨rfl, b1⟩
  have HB : Hid _ := And.intro (HW.out.1.trans (b1.mono HW.out.1.size)) True.intro
  clear b1
  go_wp2
  go_ret
  exact ⟨rfl, HB.out.1⟩
theorem hesz_over (v : Value) (h : HE) (l : Int) (w : World) (hr : HERow w v h) (hs : h.small 9223372036854775807) (hx : h.texts 9223372036854775807) (hl0 : 0 ≤ l) (hl1 : l ≤ 9223372036854775807) (ho : l < h.total) :
    Calls Tryz.prog 4 #[v, .int .i64 l] w fun e w' => e = .returned (.int .i64 (-1)) ∧ Below w.heap.size w w' := by
  unfold HE.total at ho
  by_cases c0 : l < (h.rnd.length : Int)
  · exact hesz_over0 v h l w hr hs hx hl0 hl1 c0
  · by_cases c1 : l - (h.rnd.length : Int) < (h.vers.length : Int)
    · exact hesz_over1 v h l w hr hs hx hl0 hl1 (by omega) c1
    · by_cases c2 : l - (h.rnd.length : Int) - (h.vers.length : Int) < ttot h.nms
      · exact hesz_over2 v h l w hr hs hx hl0 hl1 (by omega) (by omega) c2
      · exact hesz_over3 v h l w hr hs hx hl0 hl1 (by omega) (by omega) (by omega) (by omega)
end Go.Proofs.YteggfkekgdlecaaGreatDoor
