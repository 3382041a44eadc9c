import Derived.Test.YtcljchbceeiheaaDoorHelP
import Derived.Test.YtcljchbceeiheaaDoorSzPar
import Derived.Test.YtcljchbceeiheaaDoorEqBytes
import Derived.Test.YtcljchbceeiheaaDoorEqInts
import Derived.Test.YtcljchbceeiheaaDoorEqPar
import Derived.Test.YtcljchbceeiheaaDoorMarkBytes
import Derived.Test.YtcljchbceeiheaaDoorMarkInts
import Derived.Test.YtcljchbceeiheaaDoorStrD
import Derived.Test.YtcljchbceeiheaaDoorMarkPar
import Derived.Test.YtcljchbceeiheaaDoorBlocks
namespace Go.Proofs.YtcljchbceeiheaaDoor
open Go.RowKit
set_option linter.unusedVariables false

theorem szInts_fit (v : Value) (xs : List Int) (l : Int) (w : World) (h : Row w .i64 v xs) (h0 : (xs.length : Int) ≤ l) (h1 : l ≤ 9223372036854775807) :
    Calls Tryd.prog 14 #[v, .int .i64 l] w fun e w' => e = .returned (.int .i64 (l - (xs.length : Int))) ∧ w' = w := by
  obtain ⟨ao, cap, rfl⟩ := h.form
  clear h
  generalize xs.length = n at *
  go_enter Tryd.func14, Tryd.ntmps14
  go_wp2
  go_ret
  exact ⟨rfl, rfl⟩
theorem szInts_over (v : Value) (xs : List Int) (l : Int) (w : World) (h : Row w .i64 v xs) (hx : xs.length ≤ 9223372036854775807) (h0 : l < (xs.length : Int)) (h1 : 0 ≤ l) :
    Calls Tryd.prog 14 #[v, .int .i64 l] w fun e w' => e = .returned (.int .i64 (-1)) ∧ w' = w := by
  obtain ⟨ao, cap, rfl⟩ := h.form
  clear h
  generalize xs.length = n at *
  go_enter Tryd.func14, Tryd.ntmps14
  go_wp2
  go_ret
  exact ⟨rfl, rfl⟩
theorem ttot_nn (L : List ByteArray) : 0 ≤ ttot L := by unfold ttot; omega
theorem pptot_nn (p : PP) : 0 ≤ p.total := by unfold PP.total; omega
set_option maxRecDepth 20000 in
set_option maxHeartbeats 1000000 in
theorem hesz_over0 (v : Value) (h : HE) (l : Int) (w : World) (hr : HERow w v h) (hs : h.small 9223372036854775807) (hx : h.texts 9223372036854775807) (hl0 : 0 ≤ l) (hl1 : l ≤ 9223372036854775807) (c0 : l < (h.rnd.length : Int)) :
    Calls Tryd.prog 4 #[v, .int .i64 l] w fun e w' => e = .returned (.int .i64 (-1)) ∧ Below w.heap.size w w' := by
  obtain ⟨v0, v1, v2, v3, v4, v5, rfl, r0, r1, r2, r3, r4, r5⟩ := hr
  have PR : PPRow w (.agg #[.int .i64 h.par.a0, .int .i64 h.par.a1, .int .i64 h.par.a2, .int .i64 h.par.a3, .int .i64 h.par.a4, .int .i64 h.par.a5, .int .i64 h.par.a6, .int .i64 h.par.a7, .int .i64 h.par.a8, .bool h.par.m, v3, v4, v5]) h.par := ⟨v3, v4, v5, rfl, r3, r4, r5⟩
  have WB : Below w.heap.size w (w.alloc (.cells #[.int .i64 h.kd, .int .i64 h.vr, v0, v1, v2, .int .i64 h.par.a0, .int .i64 h.par.a1, .int .i64 h.par.a2, .int .i64 h.par.a3, .int .i64 h.par.a4, .int .i64 h.par.a5, .int .i64 h.par.a6, .int .i64 h.par.a7, .int .i64 h.par.a8, .bool h.par.m, v3, v4, v5] 28)) := (Below.refl _ _).alloc (Nat.le_refl _) _
  have n2 := ttot_nn h.nms
  have n3 := pptot_nn h.par
  have k0 := szBytes_over v0 h.rnd l _ (r0.below WB) hs.1 (by omega) (by omega)
  have HW : Hid _ := And.intro WB True.intro
  have HK0 : Hid _ := And.intro k0 True.intro
  clear r0 r1 r2 r3 r4 r5 PR WB k0 hs hx
  generalize h.rnd.length = n10 at *
  generalize h.vers.length = n11 at *
  generalize ttot h.nms = n12 at *
  generalize h.par.total = n13 at *
  go_enter Tryd.func4, Tryd.ntmps4
  go_wp2_with fail
  go_at_call 13
  refine HK0.out.1.mono ?_
  rintro e w1 ⟨rfl, rfl⟩
  go_wp2
  go_ret
  exact ⟨rfl, HW.out.1⟩
set_option maxRecDepth 20000 in
set_option maxHeartbeats 1000000 in
theorem hesz_over1 (v : Value) (h : HE) (l : Int) (w : World) (hr : HERow w v h) (hs : h.small 9223372036854775807) (hx : h.texts 9223372036854775807) (hl0 : 0 ≤ l) (hl1 : l ≤ 9223372036854775807) (c0 : (h.rnd.length : Int) ≤ l) (c1 : l - (h.rnd.length : Int) < (h.vers.length : Int)) :
    Calls Tryd.prog 4 #[v, .int .i64 l] w fun e w' => e = .returned (.int .i64 (-1)) ∧ Below w.heap.size w w' := by
  obtain ⟨v0, v1, v2, v3, v4, v5, rfl, r0, r1, r2, r3, r4, r5⟩ := hr
  have PR : PPRow w (.agg #[.int .i64 h.par.a0, .int .i64 h.par.a1, .int .i64 h.par.a2, .int .i64 h.par.a3, .int .i64 h.par.a4, .int .i64 h.par.a5, .int .i64 h.par.a6, .int .i64 h.par.a7, .int .i64 h.par.a8, .bool h.par.m, v3, v4, v5]) h.par := ⟨v3, v4, v5, rfl, r3, r4, r5⟩
  have WB : Below w.heap.size w (w.alloc (.cells #[.int .i64 h.kd, .int .i64 h.vr, v0, v1, v2, .int .i64 h.par.a0, .int .i64 h.par.a1, .int .i64 h.par.a2, .int .i64 h.par.a3, .int .i64 h.par.a4, .int .i64 h.par.a5, .int .i64 h.par.a6, .int .i64 h.par.a7, .int .i64 h.par.a8, .bool h.par.m, v3, v4, v5] 28)) := (Below.refl _ _).alloc (Nat.le_refl _) _
  have n2 := ttot_nn h.nms
  have n3 := pptot_nn h.par
  have k0 := szBytes_fit v0 h.rnd l _ (r0.below WB) (by omega) (by omega)
  have k1 := szInts_over v1 h.vers (l - (h.rnd.length : Int)) _ (r1.below WB) hs.2.1 (by omega) (by omega)
  have HW : Hid _ := And.intro WB True.intro
  have HK0 : Hid _ := And.intro k0 True.intro
  have HK1 : Hid _ := And.intro k1 True.intro
  clear r0 r1 r2 r3 r4 r5 PR WB k0 k1 hs hx
  generalize h.rnd.length = n10 at *
  generalize h.vers.length = n11 at *
  generalize ttot h.nms = n12 at *
  generalize h.par.total = n13 at *
  go_enter Tryd.func4, Tryd.ntmps4
  go_wp2_with fail
  go_at_call 13
  refine HK0.out.1.mono ?_
  rintro e w1 ⟨rfl, rfl⟩
  go_wp2_with fail
  go_at_call 14
  refine HK1.out.1.mono ?_
  rintro e w1 ⟨rfl, rfl⟩
  go_wp2
  go_ret
  exact ⟨rfl, HW.out.1⟩
set_option maxRecDepth 20000 in
set_option maxHeartbeats 1000000 in
theorem hesz_over2 (v : Value) (h : HE) (l : Int) (w : World) (hr : HERow w v h) (hs : h.small 9223372036854775807) (hx : h.texts 9223372036854775807) (hl0 : 0 ≤ l) (hl1 : l ≤ 9223372036854775807) (c0 : (h.rnd.length : Int) ≤ l) (c1 : (h.vers.length : Int) ≤ l - (h.rnd.length : Int)) (c2 : l - (h.rnd.length : Int) - (h.vers.length : Int) < ttot h.nms) :
    Calls Tryd.prog 4 #[v, .int .i64 l] w fun e w' => e = .returned (.int .i64 (-1)) ∧ Below w.heap.size w w' := by
  obtain ⟨v0, v1, v2, v3, v4, v5, rfl, r0, r1, r2, r3, r4, r5⟩ := hr
  have PR : PPRow w (.agg #[.int .i64 h.par.a0, .int .i64 h.par.a1, .int .i64 h.par.a2, .int .i64 h.par.a3, .int .i64 h.par.a4, .int .i64 h.par.a5, .int .i64 h.par.a6, .int .i64 h.par.a7, .int .i64 h.par.a8, .bool h.par.m, v3, v4, v5]) h.par := ⟨v3, v4, v5, rfl, r3, r4, r5⟩
  have WB : Below w.heap.size w (w.alloc (.cells #[.int .i64 h.kd, .int .i64 h.vr, v0, v1, v2, .int .i64 h.par.a0, .int .i64 h.par.a1, .int .i64 h.par.a2, .int .i64 h.par.a3, .int .i64 h.par.a4, .int .i64 h.par.a5, .int .i64 h.par.a6, .int .i64 h.par.a7, .int .i64 h.par.a8, .bool h.par.m, v3, v4, v5] 28)) := (Below.refl _ _).alloc (Nat.le_refl _) _
  have n2 := ttot_nn h.nms
  have n3 := pptot_nn h.par
  have k0 := szBytes_fit v0 h.rnd l _ (r0.below WB) (by omega) (by omega)
  have k1 := szInts_fit v1 h.vers (l - (h.rnd.length : Int)) _ (r1.below WB) (by omega) (by omega)
  have k2 := szStrs v2 h.nms (l - (h.rnd.length : Int) - (h.vers.length : Int)) _ (r2.below WB) hs.2.2.1 hx (by omega) (by omega)
  rw [if_neg (by omega)] at k2
  have HW : Hid _ := And.intro WB True.intro
  have HK0 : Hid _ := And.intro k0 True.intro
  have HK1 : Hid _ := And.intro k1 True.intro
  have HK2 : Hid _ := And.intro k2 True.intro
  clear r0 r1 r2 r3 r4 r5 PR WB k0 k1 k2 hs hx
  generalize h.rnd.length = n10 at *
  generalize h.vers.length = n11 at *
  generalize ttot h.nms = n12 at *
  generalize h.par.total = n13 at *
  go_enter Tryd.func4, Tryd.ntmps4
  go_wp2_with fail
  go_at_call 13
  refine HK0.out.1.mono ?_
  rintro e w1 ⟨rfl, rfl⟩
  go_wp2_with fail
  go_at_call 14
  refine HK1.out.1.mono ?_
  rintro e w1 ⟨rfl, rfl⟩
  go_wp2_with fail
  go_at_call 15
  refine HK2.out.1.mono ?_
  rintro e w1 ⟨rfl, rfl⟩
  go_wp2
  go_ret
  exact ⟨rfl, HW.out.1⟩
set_option maxRecDepth 20000 in
set_option maxHeartbeats 1000000 in
theorem hesz_over3 (v : Value) (h : HE) (l : Int) (w : World) (hr : HERow w v h) (hs : h.small 9223372036854775807) (hx : h.texts 9223372036854775807) (hl0 : 0 ≤ l) (hl1 : l ≤ 9223372036854775807) (c0 : (h.rnd.length : Int) ≤ l) (c1 : (h.vers.length : Int) ≤ l - (h.rnd.length : Int)) (c2 : ttot h.nms ≤ l - (h.rnd.length : Int) - (h.vers.length : Int)) (c3 : l - (h.rnd.length : Int) - (h.vers.length : Int) - ttot h.nms < h.par.total) :
    Calls Tryd.prog 4 #[v, .int .i64 l] w fun e w' => e = .returned (.int .i64 (-1)) ∧ Below w.heap.size w w' := by
  obtain ⟨v0, v1, v2, v3, v4, v5, rfl, r0, r1, r2, r3, r4, r5⟩ := hr
  have PR : PPRow w (.agg #[.int .i64 h.par.a0, .int .i64 h.par.a1, .int .i64 h.par.a2, .int .i64 h.par.a3, .int .i64 h.par.a4, .int .i64 h.par.a5, .int .i64 h.par.a6, .int .i64 h.par.a7, .int .i64 h.par.a8, .bool h.par.m, v3, v4, v5]) h.par := ⟨v3, v4, v5, rfl, r3, r4, r5⟩
  have WB : Below w.heap.size w (w.alloc (.cells #[.int .i64 h.kd, .int .i64 h.vr, v0, v1, v2, .int .i64 h.par.a0, .int .i64 h.par.a1, .int .i64 h.par.a2, .int .i64 h.par.a3, .int .i64 h.par.a4, .int .i64 h.par.a5, .int .i64 h.par.a6, .int .i64 h.par.a7, .int .i64 h.par.a8, .bool h.par.m, v3, v4, v5] 28)) := (Below.refl _ _).alloc (Nat.le_refl _) _
  have n2 := ttot_nn h.nms
  have n3 := pptot_nn h.par
  have k0 := szBytes_fit v0 h.rnd l _ (r0.below WB) (by omega) (by omega)
  have k1 := szInts_fit v1 h.vers (l - (h.rnd.length : Int)) _ (r1.below WB) (by omega) (by omega)
  have k2 := szStrs v2 h.nms (l - (h.rnd.length : Int) - (h.vers.length : Int)) _ (r2.below WB) hs.2.2.1 hx (by omega) (by omega)
  rw [if_pos c2] at k2
  have k3 := psz_over _ h.par (l - (h.rnd.length : Int) - (h.vers.length : Int) - ttot h.nms) _ (PR.below WB) hs.2.2.2 (by omega) (by omega) (by omega)
  have HW : Hid _ := And.intro WB True.intro
  have HK0 : Hid _ := And.intro k0 True.intro
  have HK1 : Hid _ := And.intro k1 True.intro
  have HK2 : Hid _ := And.intro k2 True.intro
  have HK3 : Hid _ := And.intro k3 True.intro
  clear r0 r1 r2 r3 r4 r5 PR WB k0 k1 k2 k3 hs hx
  generalize h.rnd.length = n10 at *
  generalize h.vers.length = n11 at *
  generalize ttot h.nms = n12 at *
  generalize h.par.total = n13 at *
  go_enter Tryd.func4, Tryd.ntmps4
  go_wp2_with fail
  go_at_call 13
  refine HK0.out.1.mono ?_
  rintro e w1 ⟨rfl, rfl⟩
  go_wp2_with fail
  go_at_call 14
  refine HK1.out.1.mono ?_
  rintro e w1 ⟨rfl, rfl⟩
  go_wp2_with fail
  go_at_call 15
  refine HK2.out.1.mono ?_
  rintro e w1 ⟨rfl, rfl⟩
  go_wp2_with fail
  go_at_call 16
  refine HK3.out.1.mono ?_
  rintro e w1 ⟨rfl, b1⟩
  have HB : Hid _ := And.intro (HW.out.1.trans (b1.mono HW.out.1.size)) True.intro
  clear b1
  go_wp2
  go_ret
  exact ⟨rfl, HB.out.1⟩
set_option maxRecDepth 20000 in
set_option maxHeartbeats 1000000 in
theorem hesz_fit (v : Value) (h : HE) (l : Int) (w : World) (hr : HERow w v h) (hs : h.small 9223372036854775807) (hx : h.texts 9223372036854775807) (hl0 : 0 ≤ l) (hl1 : l ≤ 9223372036854775807) (c0 : (h.rnd.length : Int) ≤ l) (c1 : (h.vers.length : Int) ≤ l - (h.rnd.length : Int)) (c2 : ttot h.nms ≤ l - (h.rnd.length : Int) - (h.vers.length : Int)) (c3 : h.par.total ≤ l - (h.rnd.length : Int) - (h.vers.length : Int) - ttot h.nms) :
    Calls Tryd.prog 4 #[v, .int .i64 l] w fun e w' => e = .returned (.int .i64 (l - (h.rnd.length : Int) - (h.vers.length : Int) - ttot h.nms - h.par.total)) ∧ Below w.heap.size w w' := by
  obtain ⟨v0, v1, v2, v3, v4, v5, rfl, r0, r1, r2, r3, r4, r5⟩ := hr
  have PR : PPRow w (.agg #[.int .i64 h.par.a0, .int .i64 h.par.a1, .int .i64 h.par.a2, .int .i64 h.par.a3, .int .i64 h.par.a4, .int .i64 h.par.a5, .int .i64 h.par.a6, .int .i64 h.par.a7, .int .i64 h.par.a8, .bool h.par.m, v3, v4, v5]) h.par := ⟨v3, v4, v5, rfl, r3, r4, r5⟩
  have WB : Below w.heap.size w (w.alloc (.cells #[.int .i64 h.kd, .int .i64 h.vr, v0, v1, v2, .int .i64 h.par.a0, .int .i64 h.par.a1, .int .i64 h.par.a2, .int .i64 h.par.a3, .int .i64 h.par.a4, .int .i64 h.par.a5, .int .i64 h.par.a6, .int .i64 h.par.a7, .int .i64 h.par.a8, .bool h.par.m, v3, v4, v5] 28)) := (Below.refl _ _).alloc (Nat.le_refl _) _
  have n2 := ttot_nn h.nms
  have n3 := pptot_nn h.par
  have k0 := szBytes_fit v0 h.rnd l _ (r0.below WB) (by omega) (by omega)
  have k1 := szInts_fit v1 h.vers (l - (h.rnd.length : Int)) _ (r1.below WB) (by omega) (by omega)
  have k2 := szStrs v2 h.nms (l - (h.rnd.length : Int) - (h.vers.length : Int)) _ (r2.below WB) hs.2.2.1 hx (by omega) (by omega)
  rw [if_pos c2] at k2
  have k3 := psz_fit _ h.par (l - (h.rnd.length : Int) - (h.vers.length : Int) - ttot h.nms) _ (PR.below WB) hs.2.2.2 (by omega) (by omega) (by omega)
  have HW : Hid _ := And.intro WB True.intro
  have HK0 : Hid _ := And.intro k0 True.intro
  have HK1 : Hid _ := And.intro k1 True.intro
  have HK2 : Hid _ := And.intro k2 True.intro
  have HK3 : Hid _ := And.intro k3 True.intro
  clear r0 r1 r2 r3 r4 r5 PR WB k0 k1 k2 k3 hs hx
  generalize h.rnd.length = n10 at *
  generalize h.vers.length = n11 at *
  generalize ttot h.nms = n12 at *
  generalize h.par.total = n13 at *
  go_enter Tryd.func4, Tryd.ntmps4
  go_wp2_with fail
  go_at_call 13
  refine HK0.out.1.mono ?_
  rintro e w1 ⟨rfl, rfl⟩
  go_wp2_with fail
  go_at_call 14
  refine HK1.out.1.mono ?_
  rintro e w1 ⟨rfl, rfl⟩
  go_wp2_with fail
  go_at_call 15
  refine HK2.out.1.mono ?_
  rintro e w1 ⟨rfl, rfl⟩
  go_wp2_with fail
  go_at_call 16
  refine HK3.out.1.mono ?_
  rintro e w1 ⟨rfl, b1⟩
  have HB : Hid _ := And.intro (HW.out.1.trans (b1.mono HW.out.1.size)) True.intro
  clear b1
  go_wp2
  go_ret
  exact ⟨rfl, HB.out.1⟩
theorem hesz_over (v : Value) (h : HE) (l : Int) (w : World) (hr : HERow w v h) (hs : h.small 9223372036854775807) (hx : h.texts 9223372036854775807) (hl0 : 0 ≤ l) (hl1 : l ≤ 9223372036854775807) (ho : l < h.total) :
    Calls Tryd.prog 4 #[v, .int .i64 l] w fun e w' => e = .returned (.int .i64 (-1)) ∧ Below w.heap.size w w' := by
  unfold HE.total at ho
  by_cases c0 : l < (h.rnd.length : Int)
  · exact hesz_over0 v h l w hr hs hx hl0 hl1 c0
  · by_cases c1 : l - (h.rnd.length : Int) < (h.vers.length : Int)
    · exact hesz_over1 v h l w hr hs hx hl0 hl1 (by omega) c1
    · by_cases c2 : l - (h.rnd.length : Int) - (h.vers.length : Int) < ttot h.nms
      · exact hesz_over2 v h l w hr hs hx hl0 hl1 (by omega) (by omega) c2
      · exact hesz_over3 v h l w hr hs hx hl0 hl1 (by omega) (by omega) (by omega) (by omega)
end Go.Proofs.YtcljchbceeiheaaDoor

namespace Go.Proofs.YtcljchbceeiheaaDoor
open Go.RowKit
set_option linter.unusedVariables false

theorem hetot_nn (h : HE) : 0 ≤ h.total := by
  have := ttot_nn h.nms
  have := pptot_nn h.par
  unfold HE.total
  omega
theorem tsum_at (L : List ByteArray) (j : Nat) : ((L.getD j ByteArray.empty).size : Int) ≤ (tsum L L.length : Int) := by
  by_cases hj : j < L.length
  · have e := tsum_succ L j hj
    have m := tsum_mono L (L.length - (j + 1)) (j + 1) (by omega)
    rw [show j + 1 + (L.length - (j + 1)) = L.length by omega] at m
    omega
  · rw [List.getD, List.getElem?_eq_none (by omega)]
    simp
theorem he_small {h : HE} {n : Nat} (ht : h.total ≤ (n : Int)) : h.small n ∧ h.texts n := by
  have a := ttot_nn h.nms
  have b := pptot_nn h.par
  unfold HE.total at ht
  have e : ttot h.nms = (h.nms.length : Int) + (tsum h.nms h.nms.length : Int) := rfl
  have f : h.par.total = (h.par.o.length : Int) + (h.par.t.length : Int) + (h.par.f.length : Int) := rfl
  refine ⟨⟨by omega, by omega, by omega, by omega, by omega, by omega⟩, fun j => ?_⟩
  have := tsum_at h.nms j
  omega
theorem heszF (v : Value) (h : HE) (l : Int) (w : World) (hr : HERow w v h) (hs : h.small 9223372036854775807) (hl0 : 0 ≤ l) (hl1 : l ≤ 9223372036854775807) (hf : h.total ≤ l) :
    Calls Tryd.prog 4 #[v, .int .i64 l] w fun e w' => e = .returned (.int .i64 (l - h.total)) ∧ Below w.heap.size w w' := by
  have a := ttot_nn h.nms
  have b := pptot_nn h.par
  have t := (he_small (h := h) (n := 9223372036854775807) (by omega)).2
  have e : l - h.total = l - (h.rnd.length : Int) - (h.vers.length : Int) - ttot h.nms - h.par.total := by unfold HE.total; omega
  rw [e]
  unfold HE.total at hf
  exact hesz_fit v h l w hr hs t hl0 hl1 (by omega) (by omega) (by omega) (by omega)
theorem heszO (v : Value) (h : HE) (l : Int) (w : World) (hr : HERow w v h) (hs : h.small 9223372036854775807 ∧ h.texts 9223372036854775807) (hl0 : 0 ≤ l) (hl1 : l ≤ 9223372036854775807) (ho : l < h.total) :
    Calls Tryd.prog 4 #[v, .int .i64 l] w fun e w' => e = .returned (.int .i64 (-1)) ∧ Below w.heap.size w w' := hesz_over v h l w hr hs.1 hs.2 hl0 hl1 ho
theorem he_mono2 {h : HE} {m n : Nat} (hs : h.small m ∧ h.texts m) (hm : m ≤ n) : h.small n ∧ h.texts n := ⟨hesmall_mono hs.1 hm, fun j => Nat.le_trans (hs.2 j) hm⟩
theorem HEOwns.parts {w : World} {base : Nat} {v : Value} {h : HE} (k : HEOwns w base v h) : ∃ (a0 a1 a2 a3 a4 a5 : Option Addr) (p0 p1 p2 p3 p4 p5 : Nat), v = .agg #[.int .i64 h.kd, .int .i64 h.vr, .slice a0 h.rnd.length p0, .slice a1 h.vers.length p1, .slice a2 h.nms.length p2, .int .i64 h.par.a0, .int .i64 h.par.a1, .int .i64 h.par.a2, .int .i64 h.par.a3, .int .i64 h.par.a4, .int .i64 h.par.a5, .int .i64 h.par.a6, .int .i64 h.par.a7, .int .i64 h.par.a8, .bool h.par.m, .slice a3 h.par.o.length p3, .slice a4 h.par.t.length p4, .slice a5 h.par.f.length p5] := by
  obtain ⟨v0, v1, v2, v3, v4, v5, rfl, q⟩ := k
  obtain ⟨a0, p0, rfl⟩ := (row_of_owns q.o0).form
  obtain ⟨a1, p1, rfl⟩ := (row_of_owns q.o1).form
  obtain ⟨a2, p2, rfl⟩ := (trow_of_owns q.o2).form
  obtain ⟨a3, p3, rfl⟩ := (row_of_owns q.o3).form
  obtain ⟨a4, p4, rfl⟩ := (row_of_owns q.o4).form
  obtain ⟨a5, p5, rfl⟩ := (row_of_owns q.o5).form
  exact ⟨a0, a1, a2, a3, a4, a5, p0, p1, p2, p3, p4, p5, rfl⟩
/-- The eighteen cells of a block of a book. -/
theorem Book.c18 {w : World} {l : List (Nat × Obj)} (h : Book w l) {b : Nat} {x0 x1 x2 x3 x4 x5 x6 x7 x8 x9 x10 x11 x12 x13 x14 x15 x16 x17 : Value} {t : TypeId} (hm : (b, Obj.cells #[x0, x1, x2, x3, x4, x5, x6, x7, x8, x9, x10, x11, x12, x13, x14, x15, x16, x17] t (0, 0)) ∈ l) :
    w.cell? ⟨b, 0, none⟩ = some x0 ∧ w.cell? ⟨b, 1, none⟩ = some x1 ∧ w.cell? ⟨b, 2, none⟩ = some x2 ∧ w.cell? ⟨b, 3, none⟩ = some x3 ∧ w.cell? ⟨b, 4, none⟩ = some x4 ∧ w.cell? ⟨b, 5, none⟩ = some x5 ∧ w.cell? ⟨b, 6, none⟩ = some x6 ∧ w.cell? ⟨b, 7, none⟩ = some x7 ∧ w.cell? ⟨b, 8, none⟩ = some x8 ∧ w.cell? ⟨b, 9, none⟩ = some x9 ∧ w.cell? ⟨b, 10, none⟩ = some x10 ∧ w.cell? ⟨b, 11, none⟩ = some x11 ∧ w.cell? ⟨b, 12, none⟩ = some x12 ∧ w.cell? ⟨b, 13, none⟩ = some x13 ∧ w.cell? ⟨b, 14, none⟩ = some x14 ∧ w.cell? ⟨b, 15, none⟩ = some x15 ∧ w.cell? ⟨b, 16, none⟩ = some x16 ∧ w.cell? ⟨b, 17, none⟩ = some x17 := by
  have hb := h.blk _ _ hm
  refine ⟨?_, ?_, ?_, ?_, ?_, ?_, ?_, ?_, ?_, ?_, ?_, ?_, ?_, ?_, ?_, ?_, ?_, ?_⟩ <;> simp [World.cell?, hb]
end Go.Proofs.YtcljchbceeiheaaDoor

namespace Go.Proofs.YtcljchbceeiheaaDoor
open Go.RowKit
set_option linter.unusedVariables false

set_option maxRecDepth 20000 in
set_option maxHeartbeats 2000000 in
theorem eqHel_same (va vb : Value) (h : HE) (w : World) (ha : HERow w va h) (hb : HERow w vb h) (hs : h.small 1048576) :
    Calls Tryd.prog 9 #[va, vb] w fun e w' => e = .returned (.bool true) ∧ Below w.heap.size w w' := by
  obtain ⟨v0, v1, v2, v3, v4, v5, rfl, p0, p1, p2, p3, p4, p5⟩ := ha
  obtain ⟨u0, u1, u2, u3, u4, u5, rfl, q0, q1, q2, q3, q4, q5⟩ := hb
  have W2 : Below w.heap.size w ((w.alloc (.cells #[.int .i64 h.kd, .int .i64 h.vr, v0, v1, v2, .int .i64 h.par.a0, .int .i64 h.par.a1, .int .i64 h.par.a2, .int .i64 h.par.a3, .int .i64 h.par.a4, .int .i64 h.par.a5, .int .i64 h.par.a6, .int .i64 h.par.a7, .int .i64 h.par.a8, .bool h.par.m, v3, v4, v5] 34)).alloc (.cells #[.int .i64 h.kd, .int .i64 h.vr, u0, u1, u2, .int .i64 h.par.a0, .int .i64 h.par.a1, .int .i64 h.par.a2, .int .i64 h.par.a3, .int .i64 h.par.a4, .int .i64 h.par.a5, .int .i64 h.par.a6, .int .i64 h.par.a7, .int .i64 h.par.a8, .bool h.par.m, u3, u4, u5] 34)) := ((Below.refl _ _).alloc (Nat.le_refl _) _).alloc (by simp) _
  have B2 := ((Book.nil w).add (.cells #[.int .i64 h.kd, .int .i64 h.vr, v0, v1, v2, .int .i64 h.par.a0, .int .i64 h.par.a1, .int .i64 h.par.a2, .int .i64 h.par.a3, .int .i64 h.par.a4, .int .i64 h.par.a5, .int .i64 h.par.a6, .int .i64 h.par.a7, .int .i64 h.par.a8, .bool h.par.m, v3, v4, v5] 34)).add (.cells #[.int .i64 h.kd, .int .i64 h.vr, u0, u1, u2, .int .i64 h.par.a0, .int .i64 h.par.a1, .int .i64 h.par.a2, .int .i64 h.par.a3, .int .i64 h.par.a4, .int .i64 h.par.a5, .int .i64 h.par.a6, .int .i64 h.par.a7, .int .i64 h.par.a8, .bool h.par.m, u3, u4, u5] 34)
  have ek : (h.kd != h.kd) = false := by simp
  have ev : (h.vr != h.vr) = false := by simp
  have PA : PPRow w (.agg #[.int .i64 h.par.a0, .int .i64 h.par.a1, .int .i64 h.par.a2, .int .i64 h.par.a3, .int .i64 h.par.a4, .int .i64 h.par.a5, .int .i64 h.par.a6, .int .i64 h.par.a7, .int .i64 h.par.a8, .bool h.par.m, v3, v4, v5]) h.par := ⟨v3, v4, v5, rfl, p3, p4, p5⟩
  have PB : PPRow w (.agg #[.int .i64 h.par.a0, .int .i64 h.par.a1, .int .i64 h.par.a2, .int .i64 h.par.a3, .int .i64 h.par.a4, .int .i64 h.par.a5, .int .i64 h.par.a6, .int .i64 h.par.a7, .int .i64 h.par.a8, .bool h.par.m, u3, u4, u5]) h.par := ⟨u3, u4, u5, rfl, q3, q4, q5⟩
  have HH : Hid _ := And.intro W2 (And.intro B2 (And.intro (And.intro p0 q0) (And.intro (And.intro p1 q1) (And.intro (And.intro p2 q2) (And.intro (And.intro PA PB) hs)))))
  clear W2 B2 p0 p1 p2 p3 p4 p5 q0 q1 q2 q3 q4 q5 PA PB hs
  go_enter Tryd.func9, Tryd.ntmps9
  go_wp2_with fail
  go_at_call 8
  refine (eqBytes_same _ _ h.rnd _ (HH.out.2.2.1.1.below HH.out.1) (HH.out.2.2.1.2.below HH.out.1) (by have := HH.out.2.2.2.2.2.2.1; omega)).mono ?_
  rintro e w0 ⟨rfl, m0, rfl⟩
  go_wp2_with fail
  go_at_call 32
  refine (eqInts_same _ _ h.vers _ ((HH.out.2.2.2.1.1.below HH.out.1).drewN _) ((HH.out.2.2.2.1.2.below HH.out.1).drewN _) (by have := HH.out.2.2.2.2.2.2.2.1; omega)).mono ?_
  rintro e w1 ⟨rfl, m1, rfl⟩
  go_wp2_with fail
  go_at_call 33
  refine (eqStrs_same _ _ h.nms _ (HH.out.2.2.2.2.1.1.below (below_drewN HH.out.1 _)) (HH.out.2.2.2.2.1.2.below (below_drewN HH.out.1 _)) HH.out.2.2.2.2.2.2.2.2.1).mono ?_
  rintro e w2 ⟨rfl, m2, rfl⟩
  go_wp2_with fail
  go_at_call 34
  refine (eqPar_same _ _ h.par _ (HH.out.2.2.2.2.2.1.1.below (below_drewN HH.out.1 _)) (HH.out.2.2.2.2.2.1.2.below (below_drewN HH.out.1 _)) (ppsmall_mono HH.out.2.2.2.2.2.2.2.2.2 (by decide))).mono ?_
  rintro e w3 ⟨rfl, b3⟩
  have HB : Hid _ := And.intro ((below_drewN HH.out.1 (m0 + m1 + m2)).trans (b3.mono (below_drewN HH.out.1 (m0 + m1 + m2)).size)) True.intro
  clear b3
  go_wp2
  go_ret
  exact ⟨rfl, HB.out.1⟩
end Go.Proofs.YtcljchbceeiheaaDoor

namespace Go.Proofs.YtcljchbceeiheaaDoor
open Go.RowKit
set_option linter.unusedVariables false

def HE.marked (h : HE) (q : Int) : HE :=
  ⟨h.kd, h.vr, marks q h.rnd.length, marksI (q + (h.rnd.length : Int)) h.vers.length, marksT (q + (h.rnd.length : Int) + (h.vers.length : Int)) h.nms.length, h.par.marked (q + (h.rnd.length : Int) + (h.vers.length : Int) + (h.nms.length : Int))⟩
def HE.marksN (h : HE) : Int := (h.rnd.length : Int) + (h.vers.length : Int) + (h.nms.length : Int) + ((h.par.o.length : Int) + (h.par.t.length : Int) + (h.par.f.length : Int))
theorem hemarks_nn (h : HE) : 0 ≤ h.marksN := by unfold HE.marksN; omega
theorem only_chg {g : Option Nat} {w w' : World} (h : Only g w w') : Chg (fun k => g = some k) w w' := Chg.of_only h (fun k e => e)
theorem Chg.sub {S S' : Nat → Prop} {w w' : World} (h : Chg S w w') (hs : ∀ k, S k → S' k) : Chg S' w w' := ⟨h.os, h.tape, h.output, h.size, fun k hk hn => h.block k hk (fun e => hn (hs k e))⟩
theorem PPOwns.lits {w : World} {base : Nat} {c0 c1 c2 c3 c4 c5 c6 c7 c8 c9 v3 v4 v5 : Value} {p : PP} (k : PPOwns w base (.agg #[c0, c1, c2, c3, c4, c5, c6, c7, c8, c9, v3, v4, v5]) p) : PPOwn w base v3 v4 v5 p := by
  obtain ⟨t3, t4, t5, e, q⟩ := k
  simp only [Value.agg.injEq, Array.mk.injEq, List.cons.injEq] at e
  obtain ⟨_, _, _, _, _, _, _, _, _, _, rfl, rfl, rfl, _⟩ := e
  exact q
theorem ppblk_lits {c0 c1 c2 c3 c4 c5 c6 c7 c8 c9 v3 v4 v5 : Value} {g : Nat} (h : PPBlk (.agg #[c0, c1, c2, c3, c4, c5, c6, c7, c8, c9, v3, v4, v5]) g) : v3.ownBlock = some g ∨ v4.ownBlock = some g ∨ v5.ownBlock = some g := by
  obtain ⟨cs, t2, t3, t4, ec, e2, e3, e4, hb⟩ := h
  cases ec
  simp at e2 e3 e4
  subst e2 e3 e4
  exact hb
set_option maxRecDepth 20000 in
set_option maxHeartbeats 4000000 in
theorem markHel (q : Int) (base : Nat) (v : Value) (h : HE) (w : World) (hs : h.small 1048576) (hq0 : 0 ≤ q) (hq1 : q ≤ 140737000000000) (ho : HEOwns w base v h) :
    Calls Tryd.prog 10 #[v, .int .i64 q] w fun e w' => e = .returned (.int .i64 (q + h.marksN)) ∧ HEOwns w' base v (h.marked q) ∧ Chg (HEBlk v) w w' := by
  obtain ⟨v0, v1, v2, v3, v4, v5, rfl, k⟩ := ho
  obtain ⟨s0, s1, s2, s3⟩ := hs
  have ap := k.ap
  simp only [List.pairwise_cons, List.mem_cons, List.mem_nil_iff, or_false, forall_eq_or_imp, forall_eq] at ap
  obtain ⟨⟨a01, a02, a03, a04, a05⟩, ⟨a12, a13, a14, a15⟩, ⟨a23, a24, a25⟩, ⟨a34, a35⟩, a45, -⟩ := ap
  have WB : Below w.heap.size w (w.alloc (.cells #[.int .i64 h.kd, .int .i64 h.vr, v0, v1, v2, .int .i64 h.par.a0, .int .i64 h.par.a1, .int .i64 h.par.a2, .int .i64 h.par.a3, .int .i64 h.par.a4, .int .i64 h.par.a5, .int .i64 h.par.a6, .int .i64 h.par.a7, .int .i64 h.par.a8, .bool h.par.m, v3, v4, v5] 34)) := (Below.refl _ _).alloc (Nat.le_refl _) _
  have B0 : (w.alloc (.cells #[.int .i64 h.kd, .int .i64 h.vr, v0, v1, v2, .int .i64 h.par.a0, .int .i64 h.par.a1, .int .i64 h.par.a2, .int .i64 h.par.a3, .int .i64 h.par.a4, .int .i64 h.par.a5, .int .i64 h.par.a6, .int .i64 h.par.a7, .int .i64 h.par.a8, .bool h.par.m, v3, v4, v5] 34)).heap[w.heap.size]? = some (.cells #[.int .i64 h.kd, .int .i64 h.vr, v0, v1, v2, .int .i64 h.par.a0, .int .i64 h.par.a1, .int .i64 h.par.a2, .int .i64 h.par.a3, .int .i64 h.par.a4, .int .i64 h.par.a5, .int .i64 h.par.a6, .int .i64 h.par.a7, .int .i64 h.par.a8, .bool h.par.m, v3, v4, v5] 34 (0, 0)) := heap_alloc_new w _
  have PO : PPOwns (w.alloc (.cells #[.int .i64 h.kd, .int .i64 h.vr, v0, v1, v2, .int .i64 h.par.a0, .int .i64 h.par.a1, .int .i64 h.par.a2, .int .i64 h.par.a3, .int .i64 h.par.a4, .int .i64 h.par.a5, .int .i64 h.par.a6, .int .i64 h.par.a7, .int .i64 h.par.a8, .bool h.par.m, v3, v4, v5] 34)) base (.agg #[.int .i64 h.par.a0, .int .i64 h.par.a1, .int .i64 h.par.a2, .int .i64 h.par.a3, .int .i64 h.par.a4, .int .i64 h.par.a5, .int .i64 h.par.a6, .int .i64 h.par.a7, .int .i64 h.par.a8, .bool h.par.m, v3, v4, v5]) h.par := ⟨v3, v4, v5, rfl, owns_below k.o3 WB, owns_below k.o4 WB, owns_below k.o5 WB, a34, a35, a45⟩
  have HO : Hid _ := And.intro (owns_below k.o0 WB) (And.intro (owns_below k.o1 WB) (And.intro (owns_below k.o2 WB) PO))
  have HL : Hid _ := And.intro k.o0.lt (And.intro k.o1.lt (And.intro k.o2.lt (And.intro k.o3.lt (And.intro k.o4.lt k.o5.lt))))
  have HA : Hid _ := And.intro (And.intro a01 (And.intro a02 (And.intro a03 (And.intro a04 a05)))) (And.intro (And.intro a12 (And.intro a13 (And.intro a14 a15))) (And.intro a23 (And.intro a24 a25)))
  have AP : Hid _ := And.intro k.ap True.intro
  have HW : Hid _ := And.intro WB B0
  have EK : Hid (q + h.marksN = q + (h.rnd.length : Int) + (h.vers.length : Int) + (h.nms.length : Int) + (h.par.o.length : Int) + (h.par.t.length : Int) + (h.par.f.length : Int)) := by show _ = _; unfold HE.marksN; omega
  rw [EK.out]
  clear k WB B0 PO a01 a02 a03 a04 a05 a12 a13 a14 a15 a23 a24 a25 a34 a35 a45
  go_enter Tryd.func10, Tryd.ntmps10
  go_wp2_with fail
  go_at_call 11
  refine (markBytes q h.rnd.length base _ h.rnd _ (by omega) hq0 (by omega) HO.out.1).mono ?_
  rintro e w1 ⟨rfl, o1, b1, z1, n1⟩
  have g1 := n1.mark HW.out.2 (fun e => by have := (HL.out.1 _ e).2; omega)
  have c1 : w1.cell? ⟨w.heap.size, 3, none⟩ = some v1 := by rw [bk_cell g1]; rfl
  have H1 : Hid _ := And.intro o1 (And.intro n1 g1)
  clear o1 b1 z1 n1 g1
  go_wp2_with fail
  go_at_call 35
  refine (markInts (q + (h.rnd.length : Int)) h.vers.length base _ h.vers _ (by omega) (by omega) (by omega) (H1.out.2.1.owns HO.out.2.1 (fun g hg e => HA.out.1.1 g e.symm hg))).mono ?_
  rintro e w2 ⟨rfl, o2, b2, z2, n2⟩
  clear c1
  have g2 := n2.mark H1.out.2.2 (fun e => by have := (HL.out.2.1 _ e).2; omega)
  have c2 : w2.cell? ⟨w.heap.size, 4, none⟩ = some v2 := by rw [bk_cell g2]; rfl
  have H2 : Hid _ := And.intro o2 (And.intro n2 g2)
  clear o2 b2 z2 n2 g2
  go_wp2_with fail
  go_at_call 36
  refine (markStrs (q + (h.rnd.length : Int) + (h.vers.length : Int)) h.nms.length base _ h.nms _ rfl (by omega) (by omega) (by omega) (H2.out.2.1.owns (H1.out.2.1.owns HO.out.2.2.1 (fun g hg e => HA.out.1.2.1 g e.symm hg)) (fun g hg e => HA.out.2.1.1 g e.symm hg))).mono ?_
  rintro e w3 ⟨rfl, o3, n3⟩
  clear c2
  have hz2 : w.heap.size < w2.heap.size := (Array.getElem?_eq_some_iff.1 H2.out.2.2).1
  have g3 := (n3.block w.heap.size hz2 (fun e => by have := (HL.out.2.2.1 _ e).2; omega)).trans H2.out.2.2
  have l0 : w3.cell? ⟨w.heap.size, 5, none⟩ = some (.int .i64 h.par.a0) := by rw [bk_cell g3]; rfl
  have l1 : w3.cell? ⟨w.heap.size, 6, none⟩ = some (.int .i64 h.par.a1) := by rw [bk_cell g3]; rfl
  have l2 : w3.cell? ⟨w.heap.size, 7, none⟩ = some (.int .i64 h.par.a2) := by rw [bk_cell g3]; rfl
  have l3 : w3.cell? ⟨w.heap.size, 8, none⟩ = some (.int .i64 h.par.a3) := by rw [bk_cell g3]; rfl
  have l4 : w3.cell? ⟨w.heap.size, 9, none⟩ = some (.int .i64 h.par.a4) := by rw [bk_cell g3]; rfl
  have l5 : w3.cell? ⟨w.heap.size, 10, none⟩ = some (.int .i64 h.par.a5) := by rw [bk_cell g3]; rfl
  have l6 : w3.cell? ⟨w.heap.size, 11, none⟩ = some (.int .i64 h.par.a6) := by rw [bk_cell g3]; rfl
  have l7 : w3.cell? ⟨w.heap.size, 12, none⟩ = some (.int .i64 h.par.a7) := by rw [bk_cell g3]; rfl
  have l8 : w3.cell? ⟨w.heap.size, 13, none⟩ = some (.int .i64 h.par.a8) := by rw [bk_cell g3]; rfl
  have l9 : w3.cell? ⟨w.heap.size, 14, none⟩ = some (.bool h.par.m) := by rw [bk_cell g3]; rfl
  have l10 : w3.cell? ⟨w.heap.size, 15, none⟩ = some (v3) := by rw [bk_cell g3]; rfl
  have l11 : w3.cell? ⟨w.heap.size, 16, none⟩ = some (v4) := by rw [bk_cell g3]; rfl
  have l12 : w3.cell? ⟨w.heap.size, 17, none⟩ = some (v5) := by rw [bk_cell g3]; rfl
  have H3 : Hid _ := And.intro o3 (And.intro n3 g3)
  clear o3 n3 g3
  have P3 : PPOwns w3 base (.agg #[.int .i64 h.par.a0, .int .i64 h.par.a1, .int .i64 h.par.a2, .int .i64 h.par.a3, .int .i64 h.par.a4, .int .i64 h.par.a5, .int .i64 h.par.a6, .int .i64 h.par.a7, .int .i64 h.par.a8, .bool h.par.m, v3, v4, v5]) h.par := by
    have x1 := (only_chg H1.out.2.1).ppowns2 HO.out.2.2.2 (fun g hg e => by obtain ⟨cs, t2, t3, t4, ec, e2, e3, e4, hb⟩ := hg; cases ec; simp at e2 e3 e4; subst e2 e3 e4; rcases hb with hb | hb | hb; exact HA.out.1.2.2.1 g e hb; exact HA.out.1.2.2.2.1 g e hb; exact HA.out.1.2.2.2.2 g e hb)
    have x2 := (only_chg H2.out.2.1).ppowns2 x1 (fun g hg e => by obtain ⟨cs, t2, t3, t4, ec, e2, e3, e4, hb⟩ := hg; cases ec; simp at e2 e3 e4; subst e2 e3 e4; rcases hb with hb | hb | hb; exact HA.out.2.1.2.1 g e hb; exact HA.out.2.1.2.2.1 g e hb; exact HA.out.2.1.2.2.2 g e hb)
    exact H3.out.2.1.ppowns2 x2 (fun g hg e => by obtain ⟨cs, t2, t3, t4, ec, e2, e3, e4, hb⟩ := hg; cases ec; simp at e2 e3 e4; subst e2 e3 e4; rcases hb with hb | hb | hb; exact HA.out.2.2.1 g e hb; exact HA.out.2.2.2.1 g e hb; exact HA.out.2.2.2.2 g e hb)
  have HP3 : Hid _ := And.intro P3 True.intro
  clear P3
  go_wp2_with fail
  go_at_call 37
  refine (markPar (q + (h.rnd.length : Int) + (h.vers.length : Int) + (h.nms.length : Int)) base _ h.par _ s3 (by omega) (by omega) HP3.out.1).mono ?_
  rintro e w4 ⟨rfl, o4, n4⟩
  clear l0 l1 l2 l3 l4 l5 l6 l7 l8 l9 l10 l11 l12
  have H4 : Hid _ := And.intro o4 n4
  clear o4 n4
  go_wp2
  go_ret
  refine ⟨rfl, ?_, ?_⟩
  · have qq := PPOwns.lits H4.out.1
    have x0 := H4.out.2.owns (H3.out.2.1.owns (H2.out.2.1.owns H1.out.1 (fun g hg e => HA.out.1.1 g hg e.symm)) (fun g hg e => HA.out.1.2.1 g hg e)) (fun g hg e => by rcases ppblk_lits e with hb | hb | hb; exact HA.out.1.2.2.1 g hg hb; exact HA.out.1.2.2.2.1 g hg hb; exact HA.out.1.2.2.2.2 g hg hb)
    have x1 := H4.out.2.owns (H3.out.2.1.owns H2.out.1 (fun g hg e => HA.out.2.1.1 g hg e)) (fun g hg e => by rcases ppblk_lits e with hb | hb | hb; exact HA.out.2.1.2.1 g hg hb; exact HA.out.2.1.2.2.1 g hg hb; exact HA.out.2.1.2.2.2 g hg hb)
    have x2 := H4.out.2.owns H3.out.1 (fun g hg e => by rcases ppblk_lits e with hb | hb | hb; exact HA.out.2.2.1 g hg hb; exact HA.out.2.2.2.1 g hg hb; exact HA.out.2.2.2.2 g hg hb)
    refine ⟨v0, v1, v2, v3, v4, v5, rfl, ?_, ?_, ?_, qq.o0, qq.o1, qq.o2, AP.out.1⟩
    · show w4.ownsRow base 5 1 v0 (marks q h.rnd.length).length _
      rw [marks_length]; exact x0
    · show w4.ownsRow base 3 1 v1 (marksI (q + (h.rnd.length : Int)) h.vers.length).length _
      rw [marksI_length]; exact x1
    · show w4.ownsRow base 9 1 v2 (marksT (q + (h.rnd.length : Int) + (h.vers.length : Int)) h.nms.length).length _
      rw [marksT_length]; exact x2
  · refine (Chg.of_below HW.out.1).trans (((only_chg H1.out.2.1).sub ?_).trans (((only_chg H2.out.2.1).sub ?_).trans ((H3.out.2.1.sub ?_).trans (H4.out.2.sub ?_))))
    · exact fun g e => ⟨_, rfl, 2, v0, by simp, rfl, e⟩
    · exact fun g e => ⟨_, rfl, 3, v1, by simp, rfl, e⟩
    · exact fun g e => ⟨_, rfl, 4, v2, by simp, rfl, e⟩
    · intro g e
      rcases ppblk_lits e with hb | hb | hb
      · exact ⟨_, rfl, 15, v3, by simp, rfl, hb⟩
      · exact ⟨_, rfl, 16, v4, by simp, rfl, hb⟩
      · exact ⟨_, rfl, 17, v5, by simp, rfl, hb⟩
end Go.Proofs.YtcljchbceeiheaaDoor
