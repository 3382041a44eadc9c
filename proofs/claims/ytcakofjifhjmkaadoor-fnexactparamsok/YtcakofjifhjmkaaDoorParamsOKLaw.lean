import Derived.Test.YtcakofjifhjmkaaDoorParV
import Derived.Test.YtcakofjifhjmkaaDoorEqPar
import Derived.Test.YtcakofjifhjmkaaDoorSzPar
import Derived.Test.YtcakofjifhjmkaaDoorToPar
import Derived.Deep.RegionWith
import Derived.Deep.CutRange
namespace Go.Proofs.YtcakofjifhjmkaaDoor
open Go.RowKit
set_option linter.unusedVariables false
theorem pok_huge (v : Value) (p : PP) (s : Bool) (w : World) (row : PPRow w v p) (sm : p.small 9223372036854775807) (ho : 1048576 < p.total) :
    Calls Tryd.prog 3 #[v, .bool s] w fun e w' => e = .returned (.bool true) ∧ Below w.heap.size w w' := by
  obtain ⟨d2, d3, d4, rfl, _⟩ := id row
  have WB : Below w.heap.size w (w.alloc (.cells #[.int .i64 p.a0, .int .i64 p.a1, .int .i64 p.a2, .int .i64 p.a3, .int .i64 p.a4, .int .i64 p.a5, .int .i64 p.a6, .int .i64 p.a7, .int .i64 p.a8, .bool p.m, d2, d3, d4] 24)) := (Below.refl _ _).alloc (Nat.le_refl _) _
  have C := psz_over _ p 1048576 _ (row.below WB) sm (by decide) (by decide) ho
  have HW : Hid _ := WB
  clear row sm ho WB
  go_enter Tryd.func3, Tryd.ntmps3
  go_wp2_with fail
  go_at_call 4
  refine C.mono ?_
  rintro e w1 ⟨rfl, b1⟩
  have HB : Hid _ := HW.out.trans (b1.mono HW.out.size)
  clear b1 C
  go_wp2
  go_ret
  exact ⟨rfl, HB.out⟩
set_option maxRecDepth 20000 in
set_option maxHeartbeats 8000000 in
theorem pokLaw (v : Value) (p : PP) (s : Bool) (w : World) (row : PPRow w v p) (sm : p.small 1048576) (tt : p.total ≤ 1048576) :
    Calls Tryd.prog 3 #[v, .bool s] w fun e w' => e = .returned (.bool true) ∧ Below w.heap.size w w' := by
  have TB : Hid (∀ u : World, Below w.heap.size w u → Calls Tryd.prog 6 #[v] u fun e w' => ∃ r, e = .returned r ∧ PPOwns w' u.heap.size r p ∧ Below u.heap.size u w') := fun u h => toPar v p u (row.below h) (ppsmall_mono sm (by decide))
  obtain ⟨d2, d3, d4, rfl, _⟩ := id row
  have WB : Below w.heap.size w (w.alloc (.cells #[.int .i64 p.a0, .int .i64 p.a1, .int .i64 p.a2, .int .i64 p.a3, .int .i64 p.a4, .int .i64 p.a5, .int .i64 p.a6, .int .i64 p.a7, .int .i64 p.a8, .bool p.m, d2, d3, d4] 24)) := (Below.refl _ _).alloc (Nat.le_refl _) _
  have B0 := (Book.nil w).add (.cells #[.int .i64 p.a0, .int .i64 p.a1, .int .i64 p.a2, .int .i64 p.a3, .int .i64 p.a4, .int .i64 p.a5, .int .i64 p.a6, .int .i64 p.a7, .int .i64 p.a8, .bool p.m, d2, d3, d4] 24)
  have CZ := psz_fit _ p 1048576 _ (row.below WB) (ppsmall_mono sm (by decide)) (by decide) (by decide) tt
  have tt0 : 0 ≤ p.total := by unfold PP.total; omega
  obtain ⟨lt, el⟩ : ∃ lt, lt = 1048576 - p.total := ⟨_, rfl⟩
  rw [← el] at CZ
  have lt0 : 0 ≤ lt := by omega
  have HS : Hid (∀ (u : World) (q : Value), PPRow u q p → Calls Tryd.prog 5 #[q, .bool s] u fun e w' => e = .returned (.bool (pok p s)) ∧ Below u.heap.size u w') := fun u q h => pokS q p s u h (ppsmall_mono sm (by decide))
  have HI : Hid (∀ (u : World) (q : Value), PPRow u q p → Calls Tryd.prog 7 #[q, .bool s] u fun e w' => e = .returned (.bool (pok p s)) ∧ Below u.heap.size u w') := fun u q h => pokI q p s u h (ppsmall_mono sm (by decide))
  have HQ : Hid (∀ (u : World) (a b : Value), PPRow u a p → PPRow u b p → Calls Tryd.prog 8 #[a, b] u fun e w' => e = .returned (.bool true) ∧ Below u.heap.size u w') := fun u a b h1 h2 => eqPar_same a b p u h1 h2 (ppsmall_mono sm (by decide))
  generalize pok p s = z at HS HI
  have hz : (z != z) = false := by simp
  have H0 : Hid _ := And.intro WB B0
  have CZ2 : Hid _ := And.intro CZ True.intro
  clear row sm tt WB B0 tt0 el CZ
  go_enter Tryd.func3, Tryd.ntmps3
  go_wp2_with fail
  go_at_call 4
  refine CZ2.out.1.mono ?_
  rintro e w1 ⟨rfl, b1⟩
  have H1 : Hid _ := And.intro (H0.out.1.trans (b1.mono H0.out.1.size)) (H0.out.2.below b1)
  clear b1
  obtain ⟨ld0, ld1, ld2, ld3, ld4, ld5, ld6, ld7, ld8, ld9, ld10, ld11, ld12⟩ := H1.out.2.c13 (b := w.heap.size) (x0 := .int .i64 p.a0) (x1 := .int .i64 p.a1) (x2 := .int .i64 p.a2) (x3 := .int .i64 p.a3) (x4 := .int .i64 p.a4) (x5 := .int .i64 p.a5) (x6 := .int .i64 p.a6) (x7 := .int .i64 p.a7) (x8 := .int .i64 p.a8) (x9 := .bool p.m) (x10 := d2) (x11 := d3) (x12 := d4) (t := 24) (by simp)
  go_wp2_with fail
  go_at_call 6
  refine (TB.out _ H1.out.1).mono ?_
  rintro e w2 ⟨r2, rfl, o2, b2⟩
  clear ld0 ld1 ld2 ld3 ld4 ld5 ld6 ld7 ld8 ld9 ld10 ld11 ld12
  have H2 : Hid _ := And.intro (H1.out.1.trans (b2.mono H1.out.1.size)) (And.intro (H1.out.2.below b2) o2.row)
  clear o2 b2
  go_wp2_with fail
  go_at_call 5
  refine (HS.out _ _ H2.out.2.2).mono ?_
  rintro e w3 ⟨rfl, b3⟩
  have H3 : Hid _ := And.intro (H2.out.1.trans (b3.mono H2.out.1.size)) (H2.out.2.1.below b3)
  clear b3
  obtain ⟨ld0, ld1, ld2, ld3, ld4, ld5, ld6, ld7, ld8, ld9, ld10, ld11, ld12⟩ := H3.out.2.c13 (b := w.heap.size) (x0 := .int .i64 p.a0) (x1 := .int .i64 p.a1) (x2 := .int .i64 p.a2) (x3 := .int .i64 p.a3) (x4 := .int .i64 p.a4) (x5 := .int .i64 p.a5) (x6 := .int .i64 p.a6) (x7 := .int .i64 p.a7) (x8 := .int .i64 p.a8) (x9 := .bool p.m) (x10 := d2) (x11 := d3) (x12 := d4) (t := 24) (by simp)
  go_wp2_with fail
  go_at_call 6
  refine (TB.out _ H3.out.1).mono ?_
  rintro e w4 ⟨r4, rfl, o4, b4⟩
  clear ld0 ld1 ld2 ld3 ld4 ld5 ld6 ld7 ld8 ld9 ld10 ld11 ld12
  obtain ⟨a2, a3, a4, q2, q3, q4, er⟩ := o4.parts
  subst er
  have al : Below w4.heap.size w4 (w4.alloc (.cells #[.int .i64 p.a0, .int .i64 p.a1, .int .i64 p.a2, .int .i64 p.a3, .int .i64 p.a4, .int .i64 p.a5, .int .i64 p.a6, .int .i64 p.a7, .int .i64 p.a8, .bool p.m, .slice a2 p.o.length q2, .slice a3 p.t.length q3, .slice a4 p.f.length q4] 27)) := (Below.refl _ _).alloc (Nat.le_refl _) _
  have C4 := H3.out.1.trans (b4.mono H3.out.1.size)
  have H4 : Hid _ := And.intro (C4.trans (al.mono C4.size)) (And.intro ((H3.out.2.below b4).add (.cells #[.int .i64 p.a0, .int .i64 p.a1, .int .i64 p.a2, .int .i64 p.a3, .int .i64 p.a4, .int .i64 p.a5, .int .i64 p.a6, .int .i64 p.a7, .int .i64 p.a8, .bool p.m, .slice a2 p.o.length q2, .slice a3 p.t.length q3, .slice a4 p.f.length q4] 27)) (o4.row.below al))
  clear o4 b4 al C4
  obtain ⟨ld0, ld1, ld2, ld3, ld4, ld5, ld6, ld7, ld8, ld9, ld10, ld11, ld12⟩ := H4.out.2.1.c13 (b := w4.heap.size) (x0 := .int .i64 p.a0) (x1 := .int .i64 p.a1) (x2 := .int .i64 p.a2) (x3 := .int .i64 p.a3) (x4 := .int .i64 p.a4) (x5 := .int .i64 p.a5) (x6 := .int .i64 p.a6) (x7 := .int .i64 p.a7) (x8 := .int .i64 p.a8) (x9 := .bool p.m) (x10 := .slice a2 p.o.length q2) (x11 := .slice a3 p.t.length q3) (x12 := .slice a4 p.f.length q4) (t := 27) (by simp)
  go_wp2_with fail
  go_at_call 7
  refine (HI.out _ _ H4.out.2.2).mono ?_
  rintro e w5 ⟨rfl, b5⟩
  clear ld0 ld1 ld2 ld3 ld4 ld5 ld6 ld7 ld8 ld9 ld10 ld11 ld12
  have H5 : Hid _ := And.intro (H4.out.1.trans (b5.mono H4.out.1.size)) (And.intro (H4.out.2.1.below b5) (H4.out.2.2.below b5))
  clear b5
  go_upto_region 10 with fail
  go_cut [30] from 26 to 30 (fun cv wx => cv = .bool false ∧ Below w5.heap.size w5 wx)
  case first =>
    have D : Hid (Below w5.heap.size w5 w5.drew) := ⟨rfl, rfl, rfl, Nat.le_refl _, fun _ _ => rfl⟩
    have CD : Hid _ := And.intro (H5.out.1.trans (D.out.mono H5.out.1.size)) True.intro
    obtain ⟨ld0, ld1, ld2, ld3, ld4, ld5, ld6, ld7, ld8, ld9, ld10, ld11, ld12⟩ := (H5.out.2.1.drew).c13 (b := w4.heap.size) (x0 := .int .i64 p.a0) (x1 := .int .i64 p.a1) (x2 := .int .i64 p.a2) (x3 := .int .i64 p.a3) (x4 := .int .i64 p.a4) (x5 := .int .i64 p.a5) (x6 := .int .i64 p.a6) (x7 := .int .i64 p.a7) (x8 := .int .i64 p.a8) (x9 := .bool p.m) (x10 := .slice a2 p.o.length q2) (x11 := .slice a3 p.t.length q3) (x12 := .slice a4 p.f.length q4) (t := 27) (by simp)
    obtain ⟨le0, le1, le2, le3, le4, le5, le6, le7, le8, le9, le10, le11, le12⟩ := (H5.out.2.1.drew).c13 (b := w.heap.size) (x0 := .int .i64 p.a0) (x1 := .int .i64 p.a1) (x2 := .int .i64 p.a2) (x3 := .int .i64 p.a3) (x4 := .int .i64 p.a4) (x5 := .int .i64 p.a5) (x6 := .int .i64 p.a6) (x7 := .int .i64 p.a7) (x8 := .int .i64 p.a8) (x9 := .bool p.m) (x10 := d2) (x11 := d3) (x12 := d4) (t := 24) (by simp)
    go_region_with (first
      | (go_at_call 6; refine (TB.out w5.drew CD.out.1).mono ?_; rintro e wy ⟨ry, rfl, oy, by'⟩; obtain ⟨lf0, lf1, lf2, lf3, lf4, lf5, lf6, lf7, lf8, lf9, lf10, lf11, lf12⟩ := (H5.out.2.1.drew.below by').c13 (b := w4.heap.size) (x0 := .int .i64 p.a0) (x1 := .int .i64 p.a1) (x2 := .int .i64 p.a2) (x3 := .int .i64 p.a3) (x4 := .int .i64 p.a4) (x5 := .int .i64 p.a5) (x6 := .int .i64 p.a6) (x7 := .int .i64 p.a7) (x8 := .int .i64 p.a8) (x9 := .bool p.m) (x10 := .slice a2 p.o.length q2) (x11 := .slice a3 p.t.length q3) (x12 := .slice a4 p.f.length q4) (t := 27) (by simp))
      | (go_at_call 8; refine (HQ.out wy _ _ ((H5.out.2.2.below D.out).below by') oy.row).mono ?_; rintro e wz ⟨rfl, bz⟩))
    all_goals (go_wp2_with fail; go_meet; exact ⟨rfl, D.out.trans ((by'.trans (bz.mono by'.size)).mono D.out.size)⟩)
  case rest =>
  obtain ⟨rfl, bc⟩ := hcut
  have H6 : Hid _ := And.intro (H5.out.1.trans (bc.mono H5.out.1.size)) True.intro
  clear bc
  go_wp2
  go_ret
  exact ⟨rfl, H6.out.1⟩
theorem fnExactParamsOK_walk (v0 : Value) (k0 : PP) (b1 : Bool) (sm0 : k0.small maxLen) (kb0 : k0.bytes) (w : World) (row0 : PPRow w v0 k0) :
    Calls Tryd.prog 3 #[v0, .bool b1] w fun e w' => e = .returned (.bool true) ∧ Below w.heap.size w w' := by
  by_cases ho : 1048576 < k0.total
  · exact pok_huge v0 k0 b1 w row0 (ppsmall_mono sm0 (by unfold maxLen; decide)) ho
  · have tk : k0.total ≤ 1048576 := by omega
    exact pokLaw v0 k0 b1 w row0 (by unfold PP.total at tk; exact ⟨by omega, by omega, by omega⟩) tk
end Go.Proofs.YtcakofjifhjmkaaDoor
