import Derived.Test.YteggfkekgdlecaaGreatDoorAg_P
import Derived.Deep.RegionHeld3
import Derived.Deep.RegionWith
import Derived.Deep.CutRange
import Derived.Test.YteggfkekgdlecaaGreatDoorPokS
import Derived.BigQuiet
import Derived.Deep.LoopGhost
namespace Go.Proofs.YteggfkekgdlecaaGreatDoor
open Go.RowKit
set_option linter.unusedVariables false

theorem infoEnt : (Tryz.prog.info? 105).map (fun i => (i.size, i.bytes)) = some (5, 40) := by kernel_rfl
/-- The entries of the table, as they lie in the block T. -/
def EntAt (w : World) (T k : Nat) (cs : Array Value) : Prop := cs.size = 5 ∧ ∀ i, i < 5 → w.cell? ⟨T, 5 * k + i, none⟩ = cs[i]?
/-- The table of the parameters that lie in the block g. -/
structure PTab (w : World) (base T g : Nat) (s : Bool) : Prop where
  lt : base ≤ T ∧ T < w.heap.size
  e0 : ∃ cs, EntAt w T 0 cs ∧ OrgE w base cs 0 g 10 s
  e1 : ∃ cs, EntAt w T 1 cs ∧ NumE w base cs 1 g 0 0 1000000000000
  e2 : ∃ cs, EntAt w T 2 cs ∧ TokE w base cs 2 g 11 s
  e3 : ∃ cs, EntAt w T 3 cs ∧ NumE w base cs 3 g 1 1200 2000
  e4 : ∃ cs, EntAt w T 4 cs ∧ NumE w base cs 4 g 2 1 16384
  e5 : ∃ cs, EntAt w T 5 cs ∧ NumE w base cs 5 g 3 1 16384
  e6 : ∃ cs, EntAt w T 6 cs ∧ NumE w base cs 8 g 4 0 64
  e7 : ∃ cs, EntAt w T 7 cs ∧ NumE w base cs 9 g 5 0 64
  e8 : ∃ cs, EntAt w T 8 cs ∧ NumE w base cs 11 g 6 0 1000000
  e9 : ∃ cs, EntAt w T 9 cs ∧ FlgE w base cs 12 g 9
  e10 : ∃ cs, EntAt w T 10 cs ∧ NumE w base cs 14 g 7 2 16
  e11 : ∃ cs, EntAt w T 11 cs ∧ LstE w base cs 15 g 12 (.func (.func 108) #[] #[])
  e12 : ∃ cs, EntAt w T 12 cs ∧ NumE w base cs 32 g 8 0 1500
set_option maxRecDepth 20000 in
set_option maxHeartbeats 4000000 in
theorem parTableC (g : Nat) (s : Bool) (w : World) :
    Calls Tryz.prog 76 #[.pointer (some ⟨g, 0, none⟩), .bool s] w fun e w' => ∃ T, e = .returned (.slice (some ⟨T, 0, none⟩) 13 13) ∧ PTab w' w.heap.size T g s ∧ Below w.heap.size w w' := by
  go_enter Tryz.func76, Tryz.ntmps76
  go_upto_region 1 with fail
  have tok0 : True := trivial
  have tok1 : True := trivial
  have tok2 : True := trivial
  have tok3 : True := trivial
  have tok4 : True := trivial
  have tok5 : True := trivial
  have tok6 : True := trivial
  have tok7 : True := trivial
  have tok8 : True := trivial
  have tok9 : True := trivial
  have tok10 : True := trivial
  have tok11 : True := trivial
  have tok12 : True := trivial
  go_region_held3 (fun w' => w'.heap.size = w'.heap.size) (go_keep) (first
    | (go_at_call 84; have _t := tok0; refine (orgEntryC 0 g 10 s w.drew).mono ?_; rintro e w1 ⟨cs0, rfl, hE0, b0⟩; obtain ⟨b_0, c_0, rfl, k0⟩ := hE0; have HE0 : Hid _ := And.intro (show OrgE w1 w.drew.heap.size _ 0 g 10 s from ⟨b_0, c_0, rfl, k0⟩) b0; clear k0 b0 tok0)
    | (go_at_call 85; have _t := tok1; refine (numEntryC 1 g 0 0 1000000000000 w1).mono ?_; rintro e w2 ⟨cs1, rfl, hE1, b1⟩; obtain ⟨b_1, rfl, k1⟩ := hE1; have HE1 : Hid _ := And.intro (show NumE w2 w1.heap.size _ 1 g 0 0 1000000000000 from ⟨b_1, rfl, k1⟩) b1; clear k1 b1 tok1)
    | (go_at_call 86; have _t := tok2; refine (tokEntryC 2 g 11 s w2).mono ?_; rintro e w3 ⟨cs2, rfl, hE2, b2⟩; obtain ⟨b_2, c_2, d_2, x_2, rfl, k2⟩ := hE2; have HE2 : Hid _ := And.intro (show TokE w3 w2.heap.size _ 2 g 11 s from ⟨b_2, c_2, d_2, x_2, rfl, k2⟩) b2; clear k2 b2 tok2)
    | (go_at_call 85; have _t := tok3; refine (numEntryC 3 g 1 1200 2000 w3).mono ?_; rintro e w4 ⟨cs3, rfl, hE3, b3⟩; obtain ⟨b_3, rfl, k3⟩ := hE3; have HE3 : Hid _ := And.intro (show NumE w4 w3.heap.size _ 3 g 1 1200 2000 from ⟨b_3, rfl, k3⟩) b3; clear k3 b3 tok3)
    | (go_at_call 85; have _t := tok4; refine (numEntryC 4 g 2 1 16384 w4).mono ?_; rintro e w5 ⟨cs4, rfl, hE4, b4⟩; obtain ⟨b_4, rfl, k4⟩ := hE4; have HE4 : Hid _ := And.intro (show NumE w5 w4.heap.size _ 4 g 2 1 16384 from ⟨b_4, rfl, k4⟩) b4; clear k4 b4 tok4)
    | (go_at_call 85; have _t := tok5; refine (numEntryC 5 g 3 1 16384 w5).mono ?_; rintro e w6 ⟨cs5, rfl, hE5, b5⟩; obtain ⟨b_5, rfl, k5⟩ := hE5; have HE5 : Hid _ := And.intro (show NumE w6 w5.heap.size _ 5 g 3 1 16384 from ⟨b_5, rfl, k5⟩) b5; clear k5 b5 tok5)
    | (go_at_call 85; have _t := tok6; refine (numEntryC 8 g 4 0 64 w6).mono ?_; rintro e w7 ⟨cs6, rfl, hE6, b6⟩; obtain ⟨b_6, rfl, k6⟩ := hE6; have HE6 : Hid _ := And.intro (show NumE w7 w6.heap.size _ 8 g 4 0 64 from ⟨b_6, rfl, k6⟩) b6; clear k6 b6 tok6)
    | (go_at_call 85; have _t := tok7; refine (numEntryC 9 g 5 0 64 w7).mono ?_; rintro e w8 ⟨cs7, rfl, hE7, b7⟩; obtain ⟨b_7, rfl, k7⟩ := hE7; have HE7 : Hid _ := And.intro (show NumE w8 w7.heap.size _ 9 g 5 0 64 from ⟨b_7, rfl, k7⟩) b7; clear k7 b7 tok7)
    | (go_at_call 85; have _t := tok8; refine (numEntryC 11 g 6 0 1000000 w8).mono ?_; rintro e w9 ⟨cs8, rfl, hE8, b8⟩; obtain ⟨b_8, rfl, k8⟩ := hE8; have HE8 : Hid _ := And.intro (show NumE w9 w8.heap.size _ 11 g 6 0 1000000 from ⟨b_8, rfl, k8⟩) b8; clear k8 b8 tok8)
    | (go_at_call 87; have _t := tok9; refine (flgEntryC 12 g 9 w9).mono ?_; rintro e w10 ⟨cs9, rfl, hE9, b9⟩; obtain ⟨b_9, rfl, k9⟩ := hE9; have HE9 : Hid _ := And.intro (show FlgE w10 w9.heap.size _ 12 g 9 from ⟨b_9, rfl, k9⟩) b9; clear k9 b9 tok9)
    | (go_at_call 85; have _t := tok10; refine (numEntryC 14 g 7 2 16 w10).mono ?_; rintro e w11 ⟨cs10, rfl, hE10, b10⟩; obtain ⟨b_10, rfl, k10⟩ := hE10; have HE10 : Hid _ := And.intro (show NumE w11 w10.heap.size _ 14 g 7 2 16 from ⟨b_10, rfl, k10⟩) b10; clear k10 b10 tok10)
    | (go_at_call 88; have _t := tok11; refine (fstEntryC 15 g 12 w11).mono ?_; rintro e w12 ⟨cs11, rfl, hE11, b11⟩; obtain ⟨b_11, rfl, k11⟩ := hE11; have HE11 : Hid _ := And.intro (show LstE w12 w11.heap.size _ 15 g 12 (.func (.func 108) #[] #[]) from ⟨b_11, rfl, k11⟩) b11; clear k11 b11 tok11)
    | (go_at_call 85; have _t := tok12; refine (numEntryC 32 g 8 0 1500 w12).mono ?_; rintro e w13 ⟨cs12, rfl, hE12, b12⟩; obtain ⟨b_12, rfl, k12⟩ := hE12; have HE12 : Hid _ := And.intro (show NumE w13 w12.heap.size _ 32 g 8 0 1500 from ⟨b_12, rfl, k12⟩) b12; clear k12 b12 tok12)
    | fail)
  all_goals
    have hT : (w13.alloc (.cells #[.int .i64 0, .func (.func 110) #[] #[.pointer (some ⟨b_0 + 1, 0, none⟩), .pointer (some ⟨b_0, 0, none⟩)], .func (.func 96) #[] #[.pointer (some ⟨c_0, 0, none⟩)], .func (.func 111) #[] #[.pointer (some ⟨b_0, 0, none⟩)], .func (.func 112) #[] #[.pointer (some ⟨b_0, 0, none⟩)], .int .i64 1, .func (.func 97) #[] #[.pointer (some ⟨b_1, 0, none⟩), .pointer (some ⟨b_1 + 1, 0, none⟩), .pointer (some ⟨b_1 + 2, 0, none⟩)], .func (.func 98) #[] #[], .func (.func 99) #[] #[.pointer (some ⟨b_1, 0, none⟩)], .func (.func 100) #[] #[.pointer (some ⟨b_1, 0, none⟩)], .int .i64 2, .func (.func 110) #[] #[.pointer (some ⟨b_2 + 1, 0, none⟩), .pointer (some ⟨b_2, 0, none⟩)], .func (.func 103) #[] #[.pointer (some ⟨c_2, 0, none⟩)], .func (.func 111) #[] #[.pointer (some ⟨b_2, 0, none⟩)], .func (.func 104) #[] #[.pointer (some ⟨c_2, 0, none⟩), .pointer (some ⟨x_2, 0, none⟩)], .int .i64 3, .func (.func 97) #[] #[.pointer (some ⟨b_3, 0, none⟩), .pointer (some ⟨b_3 + 1, 0, none⟩), .pointer (some ⟨b_3 + 2, 0, none⟩)], .func (.func 98) #[] #[], .func (.func 99) #[] #[.pointer (some ⟨b_3, 0, none⟩)], .func (.func 100) #[] #[.pointer (some ⟨b_3, 0, none⟩)], .int .i64 4, .func (.func 97) #[] #[.pointer (some ⟨b_4, 0, none⟩), .pointer (some ⟨b_4 + 1, 0, none⟩), .pointer (some ⟨b_4 + 2, 0, none⟩)], .func (.func 98) #[] #[], .func (.func 99) #[] #[.pointer (some ⟨b_4, 0, none⟩)], .func (.func 100) #[] #[.pointer (some ⟨b_4, 0, none⟩)], .int .i64 5, .func (.func 97) #[] #[.pointer (some ⟨b_5, 0, none⟩), .pointer (some ⟨b_5 + 1, 0, none⟩), .pointer (some ⟨b_5 + 2, 0, none⟩)], .func (.func 98) #[] #[], .func (.func 99) #[] #[.pointer (some ⟨b_5, 0, none⟩)], .func (.func 100) #[] #[.pointer (some ⟨b_5, 0, none⟩)], .int .i64 8, .func (.func 97) #[] #[.pointer (some ⟨b_6, 0, none⟩), .pointer (some ⟨b_6 + 1, 0, none⟩), .pointer (some ⟨b_6 + 2, 0, none⟩)], .func (.func 98) #[] #[], .func (.func 99) #[] #[.pointer (some ⟨b_6, 0, none⟩)], .func (.func 100) #[] #[.pointer (some ⟨b_6, 0, none⟩)], .int .i64 9, .func (.func 97) #[] #[.pointer (some ⟨b_7, 0, none⟩), .pointer (some ⟨b_7 + 1, 0, none⟩), .pointer (some ⟨b_7 + 2, 0, none⟩)], .func (.func 98) #[] #[], .func (.func 99) #[] #[.pointer (some ⟨b_7, 0, none⟩)], .func (.func 100) #[] #[.pointer (some ⟨b_7, 0, none⟩)], .int .i64 11, .func (.func 97) #[] #[.pointer (some ⟨b_8, 0, none⟩), .pointer (some ⟨b_8 + 1, 0, none⟩), .pointer (some ⟨b_8 + 2, 0, none⟩)], .func (.func 98) #[] #[], .func (.func 99) #[] #[.pointer (some ⟨b_8, 0, none⟩)], .func (.func 100) #[] #[.pointer (some ⟨b_8, 0, none⟩)], .int .i64 12, .func (.func 98) #[] #[], .func (.func 105) #[] #[.pointer (some ⟨b_9, 0, none⟩)], .func (.func 106) #[] #[], .func (.func 107) #[] #[.pointer (some ⟨b_9, 0, none⟩)], .int .i64 14, .func (.func 97) #[] #[.pointer (some ⟨b_10, 0, none⟩), .pointer (some ⟨b_10 + 1, 0, none⟩), .pointer (some ⟨b_10 + 2, 0, none⟩)], .func (.func 98) #[] #[], .func (.func 99) #[] #[.pointer (some ⟨b_10, 0, none⟩)], .func (.func 100) #[] #[.pointer (some ⟨b_10, 0, none⟩)], .int .i64 15, .func (.func 110) #[] #[.pointer (some ⟨b_11 + 1, 0, none⟩), .pointer (some ⟨b_11, 0, none⟩)], .func (.func 98) #[] #[], .func (.func 111) #[] #[.pointer (some ⟨b_11, 0, none⟩)], .func (.func 112) #[] #[.pointer (some ⟨b_11, 0, none⟩)], .int .i64 32, .func (.func 97) #[] #[.pointer (some ⟨b_12, 0, none⟩), .pointer (some ⟨b_12 + 1, 0, none⟩), .pointer (some ⟨b_12 + 2, 0, none⟩)], .func (.func 98) #[] #[], .func (.func 99) #[] #[.pointer (some ⟨b_12, 0, none⟩)], .func (.func 100) #[] #[.pointer (some ⟨b_12, 0, none⟩)]] 105)).heap[w13.heap.size]? = some (.cells #[.int .i64 0, .func (.func 110) #[] #[.pointer (some ⟨b_0 + 1, 0, none⟩), .pointer (some ⟨b_0, 0, none⟩)], .func (.func 96) #[] #[.pointer (some ⟨c_0, 0, none⟩)], .func (.func 111) #[] #[.pointer (some ⟨b_0, 0, none⟩)], .func (.func 112) #[] #[.pointer (some ⟨b_0, 0, none⟩)], .int .i64 1, .func (.func 97) #[] #[.pointer (some ⟨b_1, 0, none⟩), .pointer (some ⟨b_1 + 1, 0, none⟩), .pointer (some ⟨b_1 + 2, 0, none⟩)], .func (.func 98) #[] #[], .func (.func 99) #[] #[.pointer (some ⟨b_1, 0, none⟩)], .func (.func 100) #[] #[.pointer (some ⟨b_1, 0, none⟩)], .int .i64 2, .func (.func 110) #[] #[.pointer (some ⟨b_2 + 1, 0, none⟩), .pointer (some ⟨b_2, 0, none⟩)], .func (.func 103) #[] #[.pointer (some ⟨c_2, 0, none⟩)], .func (.func 111) #[] #[.pointer (some ⟨b_2, 0, none⟩)], .func (.func 104) #[] #[.pointer (some ⟨c_2, 0, none⟩), .pointer (some ⟨x_2, 0, none⟩)], .int .i64 3, .func (.func 97) #[] #[.pointer (some ⟨b_3, 0, none⟩), .pointer (some ⟨b_3 + 1, 0, none⟩), .pointer (some ⟨b_3 + 2, 0, none⟩)], .func (.func 98) #[] #[], .func (.func 99) #[] #[.pointer (some ⟨b_3, 0, none⟩)], .func (.func 100) #[] #[.pointer (some ⟨b_3, 0, none⟩)], .int .i64 4, .func (.func 97) #[] #[.pointer (some ⟨b_4, 0, none⟩), .pointer (some ⟨b_4 + 1, 0, none⟩), .pointer (some ⟨b_4 + 2, 0, none⟩)], .func (.func 98) #[] #[], .func (.func 99) #[] #[.pointer (some ⟨b_4, 0, none⟩)], .func (.func 100) #[] #[.pointer (some ⟨b_4, 0, none⟩)], .int .i64 5, .func (.func 97) #[] #[.pointer (some ⟨b_5, 0, none⟩), .pointer (some ⟨b_5 + 1, 0, none⟩), .pointer (some ⟨b_5 + 2, 0, none⟩)], .func (.func 98) #[] #[], .func (.func 99) #[] #[.pointer (some ⟨b_5, 0, none⟩)], .func (.func 100) #[] #[.pointer (some ⟨b_5, 0, none⟩)], .int .i64 8, .func (.func 97) #[] #[.pointer (some ⟨b_6, 0, none⟩), .pointer (some ⟨b_6 + 1, 0, none⟩), .pointer (some ⟨b_6 + 2, 0, none⟩)], .func (.func 98) #[] #[], .func (.func 99) #[] #[.pointer (some ⟨b_6, 0, none⟩)], .func (.func 100) #[] #[.pointer (some ⟨b_6, 0, none⟩)], .int .i64 9, .func (.func 97) #[] #[.pointer (some ⟨b_7, 0, none⟩), .pointer (some ⟨b_7 + 1, 0, none⟩), .pointer (some ⟨b_7 + 2, 0, none⟩)], .func (.func 98) #[] #[], .func (.func 99) #[] #[.pointer (some ⟨b_7, 0, none⟩)], .func (.func 100) #[] #[.pointer (some ⟨b_7, 0, none⟩)], .int .i64 11, .func (.func 97) #[] #[.pointer (some ⟨b_8, 0, none⟩), .pointer (some ⟨b_8 + 1, 0, none⟩), .pointer (some ⟨b_8 + 2, 0, none⟩)], .func (.func 98) #[] #[], .func (.func 99) #[] #[.pointer (some ⟨b_8, 0, none⟩)], .func (.func 100) #[] #[.pointer (some ⟨b_8, 0, none⟩)], .int .i64 12, .func (.func 98) #[] #[], .func (.func 105) #[] #[.pointer (some ⟨b_9, 0, none⟩)], .func (.func 106) #[] #[], .func (.func 107) #[] #[.pointer (some ⟨b_9, 0, none⟩)], .int .i64 14, .func (.func 97) #[] #[.pointer (some ⟨b_10, 0, none⟩), .pointer (some ⟨b_10 + 1, 0, none⟩), .pointer (some ⟨b_10 + 2, 0, none⟩)], .func (.func 98) #[] #[], .func (.func 99) #[] #[.pointer (some ⟨b_10, 0, none⟩)], .func (.func 100) #[] #[.pointer (some ⟨b_10, 0, none⟩)], .int .i64 15, .func (.func 110) #[] #[.pointer (some ⟨b_11 + 1, 0, none⟩), .pointer (some ⟨b_11, 0, none⟩)], .func (.func 98) #[] #[], .func (.func 111) #[] #[.pointer (some ⟨b_11, 0, none⟩)], .func (.func 112) #[] #[.pointer (some ⟨b_11, 0, none⟩)], .int .i64 32, .func (.func 97) #[] #[.pointer (some ⟨b_12, 0, none⟩), .pointer (some ⟨b_12 + 1, 0, none⟩), .pointer (some ⟨b_12 + 2, 0, none⟩)], .func (.func 98) #[] #[], .func (.func 99) #[] #[.pointer (some ⟨b_12, 0, none⟩)], .func (.func 100) #[] #[.pointer (some ⟨b_12, 0, none⟩)]] 105 (0, 0)) := heap_alloc_new w13 _
    obtain ⟨WF, eF⟩ : ∃ WF, WF = w13.alloc (.cells #[.int .i64 0, .func (.func 110) #[] #[.pointer (some ⟨b_0 + 1, 0, none⟩), .pointer (some ⟨b_0, 0, none⟩)], .func (.func 96) #[] #[.pointer (some ⟨c_0, 0, none⟩)], .func (.func 111) #[] #[.pointer (some ⟨b_0, 0, none⟩)], .func (.func 112) #[] #[.pointer (some ⟨b_0, 0, none⟩)], .int .i64 1, .func (.func 97) #[] #[.pointer (some ⟨b_1, 0, none⟩), .pointer (some ⟨b_1 + 1, 0, none⟩), .pointer (some ⟨b_1 + 2, 0, none⟩)], .func (.func 98) #[] #[], .func (.func 99) #[] #[.pointer (some ⟨b_1, 0, none⟩)], .func (.func 100) #[] #[.pointer (some ⟨b_1, 0, none⟩)], .int .i64 2, .func (.func 110) #[] #[.pointer (some ⟨b_2 + 1, 0, none⟩), .pointer (some ⟨b_2, 0, none⟩)], .func (.func 103) #[] #[.pointer (some ⟨c_2, 0, none⟩)], .func (.func 111) #[] #[.pointer (some ⟨b_2, 0, none⟩)], .func (.func 104) #[] #[.pointer (some ⟨c_2, 0, none⟩), .pointer (some ⟨x_2, 0, none⟩)], .int .i64 3, .func (.func 97) #[] #[.pointer (some ⟨b_3, 0, none⟩), .pointer (some ⟨b_3 + 1, 0, none⟩), .pointer (some ⟨b_3 + 2, 0, none⟩)], .func (.func 98) #[] #[], .func (.func 99) #[] #[.pointer (some ⟨b_3, 0, none⟩)], .func (.func 100) #[] #[.pointer (some ⟨b_3, 0, none⟩)], .int .i64 4, .func (.func 97) #[] #[.pointer (some ⟨b_4, 0, none⟩), .pointer (some ⟨b_4 + 1, 0, none⟩), .pointer (some ⟨b_4 + 2, 0, none⟩)], .func (.func 98) #[] #[], .func (.func 99) #[] #[.pointer (some ⟨b_4, 0, none⟩)], .func (.func 100) #[] #[.pointer (some ⟨b_4, 0, none⟩)], .int .i64 5, .func (.func 97) #[] #[.pointer (some ⟨b_5, 0, none⟩), .pointer (some ⟨b_5 + 1, 0, none⟩), .pointer (some ⟨b_5 + 2, 0, none⟩)], .func (.func 98) #[] #[], .func (.func 99) #[] #[.pointer (some ⟨b_5, 0, none⟩)], .func (.func 100) #[] #[.pointer (some ⟨b_5, 0, none⟩)], .int .i64 8, .func (.func 97) #[] #[.pointer (some ⟨b_6, 0, none⟩), .pointer (some ⟨b_6 + 1, 0, none⟩), .pointer (some ⟨b_6 + 2, 0, none⟩)], .func (.func 98) #[] #[], .func (.func 99) #[] #[.pointer (some ⟨b_6, 0, none⟩)], .func (.func 100) #[] #[.pointer (some ⟨b_6, 0, none⟩)], .int .i64 9, .func (.func 97) #[] #[.pointer (some ⟨b_7, 0, none⟩), .pointer (some ⟨b_7 + 1, 0, none⟩), .pointer (some ⟨b_7 + 2, 0, none⟩)], .func (.func 98) #[] #[], .func (.func 99) #[] #[.pointer (some ⟨b_7, 0, none⟩)], .func (.func 100) #[] #[.pointer (some ⟨b_7, 0, none⟩)], .int .i64 11, .func (.func 97) #[] #[.pointer (some ⟨b_8, 0, none⟩), .pointer (some ⟨b_8 + 1, 0, none⟩), .pointer (some ⟨b_8 + 2, 0, none⟩)], .func (.func 98) #[] #[], .func (.func 99) #[] #[.pointer (some ⟨b_8, 0, none⟩)], .func (.func 100) #[] #[.pointer (some ⟨b_8, 0, none⟩)], .int .i64 12, .func (.func 98) #[] #[], .func (.func 105) #[] #[.pointer (some ⟨b_9, 0, none⟩)], .func (.func 106) #[] #[], .func (.func 107) #[] #[.pointer (some ⟨b_9, 0, none⟩)], .int .i64 14, .func (.func 97) #[] #[.pointer (some ⟨b_10, 0, none⟩), .pointer (some ⟨b_10 + 1, 0, none⟩), .pointer (some ⟨b_10 + 2, 0, none⟩)], .func (.func 98) #[] #[], .func (.func 99) #[] #[.pointer (some ⟨b_10, 0, none⟩)], .func (.func 100) #[] #[.pointer (some ⟨b_10, 0, none⟩)], .int .i64 15, .func (.func 110) #[] #[.pointer (some ⟨b_11 + 1, 0, none⟩), .pointer (some ⟨b_11, 0, none⟩)], .func (.func 98) #[] #[], .func (.func 111) #[] #[.pointer (some ⟨b_11, 0, none⟩)], .func (.func 112) #[] #[.pointer (some ⟨b_11, 0, none⟩)], .int .i64 32, .func (.func 97) #[] #[.pointer (some ⟨b_12, 0, none⟩), .pointer (some ⟨b_12 + 1, 0, none⟩), .pointer (some ⟨b_12 + 2, 0, none⟩)], .func (.func 98) #[] #[], .func (.func 99) #[] #[.pointer (some ⟨b_12, 0, none⟩)], .func (.func 100) #[] #[.pointer (some ⟨b_12, 0, none⟩)]] 105) := ⟨_, rfl⟩
    have B13 : Below w13.heap.size w13 WF := by rw [eF]; exact (Below.refl _ _).alloc (Nat.le_refl _) _
    have B12 : Below w12.heap.size w12 WF := HE12.out.2.trans (B13.mono HE12.out.2.size)
    have B11 : Below w11.heap.size w11 WF := HE11.out.2.trans (B12.mono HE11.out.2.size)
    have B10 : Below w10.heap.size w10 WF := HE10.out.2.trans (B11.mono HE10.out.2.size)
    have B9 : Below w9.heap.size w9 WF := HE9.out.2.trans (B10.mono HE9.out.2.size)
    have B8 : Below w8.heap.size w8 WF := HE8.out.2.trans (B9.mono HE8.out.2.size)
    have B7 : Below w7.heap.size w7 WF := HE7.out.2.trans (B8.mono HE7.out.2.size)
    have B6 : Below w6.heap.size w6 WF := HE6.out.2.trans (B7.mono HE6.out.2.size)
    have B5 : Below w5.heap.size w5 WF := HE5.out.2.trans (B6.mono HE5.out.2.size)
    have B4 : Below w4.heap.size w4 WF := HE4.out.2.trans (B5.mono HE4.out.2.size)
    have B3 : Below w3.heap.size w3 WF := HE3.out.2.trans (B4.mono HE3.out.2.size)
    have B2 : Below w2.heap.size w2 WF := HE2.out.2.trans (B3.mono HE2.out.2.size)
    have B1 : Below w1.heap.size w1 WF := HE1.out.2.trans (B2.mono HE1.out.2.size)
    have B0 : Below w.heap.size w WF := (below_drewN (Below.refl w.heap.size w) 1).trans (HE0.out.2.trans (B1.mono HE0.out.2.size))
    have sz1 : w.heap.size ≤ w1.heap.size := HE0.out.2.size
    have sz2 : w.heap.size ≤ w2.heap.size := Nat.le_trans sz1 HE1.out.2.size
    have sz3 : w.heap.size ≤ w3.heap.size := Nat.le_trans sz2 HE2.out.2.size
    have sz4 : w.heap.size ≤ w4.heap.size := Nat.le_trans sz3 HE3.out.2.size
    have sz5 : w.heap.size ≤ w5.heap.size := Nat.le_trans sz4 HE4.out.2.size
    have sz6 : w.heap.size ≤ w6.heap.size := Nat.le_trans sz5 HE5.out.2.size
    have sz7 : w.heap.size ≤ w7.heap.size := Nat.le_trans sz6 HE6.out.2.size
    have sz8 : w.heap.size ≤ w8.heap.size := Nat.le_trans sz7 HE7.out.2.size
    have sz9 : w.heap.size ≤ w9.heap.size := Nat.le_trans sz8 HE8.out.2.size
    have sz10 : w.heap.size ≤ w10.heap.size := Nat.le_trans sz9 HE9.out.2.size
    have sz11 : w.heap.size ≤ w11.heap.size := Nat.le_trans sz10 HE10.out.2.size
    have sz12 : w.heap.size ≤ w12.heap.size := Nat.le_trans sz11 HE11.out.2.size
    have sz13 : w.heap.size ≤ w13.heap.size := Nat.le_trans sz12 HE12.out.2.size
    have tl : w13.heap.size < WF.heap.size := by rw [eF]; simp
    rw [← eF] at hT
    have PTF : Hid (PTab WF w.heap.size w13.heap.size g s ∧ Below w.heap.size w WF) := by
      refine ⟨⟨⟨sz13, tl⟩, ?_, ?_, ?_, ?_, ?_, ?_, ?_, ?_, ?_, ?_, ?_, ?_, ?_⟩, B0⟩
      · exact ⟨#[.int .i64 0, .func (.func 110) #[] #[.pointer (some ⟨b_0 + 1, 0, none⟩), .pointer (some ⟨b_0, 0, none⟩)], .func (.func 96) #[] #[.pointer (some ⟨c_0, 0, none⟩)], .func (.func 111) #[] #[.pointer (some ⟨b_0, 0, none⟩)], .func (.func 112) #[] #[.pointer (some ⟨b_0, 0, none⟩)]], ⟨rfl, fun i hi => by rw [bk_cell hT]; rcases (show i = 0 ∨ i = 1 ∨ i = 2 ∨ i = 3 ∨ i = 4 by omega) with rfl | rfl | rfl | rfl | rfl <;> rfl⟩, (OrgE.below B1 HE0.out.1).mono (Nat.le_refl _)⟩
      · exact ⟨#[.int .i64 1, .func (.func 97) #[] #[.pointer (some ⟨b_1, 0, none⟩), .pointer (some ⟨b_1 + 1, 0, none⟩), .pointer (some ⟨b_1 + 2, 0, none⟩)], .func (.func 98) #[] #[], .func (.func 99) #[] #[.pointer (some ⟨b_1, 0, none⟩)], .func (.func 100) #[] #[.pointer (some ⟨b_1, 0, none⟩)]], ⟨rfl, fun i hi => by rw [bk_cell hT]; rcases (show i = 0 ∨ i = 1 ∨ i = 2 ∨ i = 3 ∨ i = 4 by omega) with rfl | rfl | rfl | rfl | rfl <;> rfl⟩, (NumE.below B2 HE1.out.1).mono (sz1)⟩
      · exact ⟨#[.int .i64 2, .func (.func 110) #[] #[.pointer (some ⟨b_2 + 1, 0, none⟩), .pointer (some ⟨b_2, 0, none⟩)], .func (.func 103) #[] #[.pointer (some ⟨c_2, 0, none⟩)], .func (.func 111) #[] #[.pointer (some ⟨b_2, 0, none⟩)], .func (.func 104) #[] #[.pointer (some ⟨c_2, 0, none⟩), .pointer (some ⟨x_2, 0, none⟩)]], ⟨rfl, fun i hi => by rw [bk_cell hT]; rcases (show i = 0 ∨ i = 1 ∨ i = 2 ∨ i = 3 ∨ i = 4 by omega) with rfl | rfl | rfl | rfl | rfl <;> rfl⟩, (TokE.below B3 HE2.out.1).mono (sz2)⟩
      · exact ⟨#[.int .i64 3, .func (.func 97) #[] #[.pointer (some ⟨b_3, 0, none⟩), .pointer (some ⟨b_3 + 1, 0, none⟩), .pointer (some ⟨b_3 + 2, 0, none⟩)], .func (.func 98) #[] #[], .func (.func 99) #[] #[.pointer (some ⟨b_3, 0, none⟩)], .func (.func 100) #[] #[.pointer (some ⟨b_3, 0, none⟩)]], ⟨rfl, fun i hi => by rw [bk_cell hT]; rcases (show i = 0 ∨ i = 1 ∨ i = 2 ∨ i = 3 ∨ i = 4 by omega) with rfl | rfl | rfl | rfl | rfl <;> rfl⟩, (NumE.below B4 HE3.out.1).mono (sz3)⟩
      · exact ⟨#[.int .i64 4, .func (.func 97) #[] #[.pointer (some ⟨b_4, 0, none⟩), .pointer (some ⟨b_4 + 1, 0, none⟩), .pointer (some ⟨b_4 + 2, 0, none⟩)], .func (.func 98) #[] #[], .func (.func 99) #[] #[.pointer (some ⟨b_4, 0, none⟩)], .func (.func 100) #[] #[.pointer (some ⟨b_4, 0, none⟩)]], ⟨rfl, fun i hi => by rw [bk_cell hT]; rcases (show i = 0 ∨ i = 1 ∨ i = 2 ∨ i = 3 ∨ i = 4 by omega) with rfl | rfl | rfl | rfl | rfl <;> rfl⟩, (NumE.below B5 HE4.out.1).mono (sz4)⟩
      · exact ⟨#[.int .i64 5, .func (.func 97) #[] #[.pointer (some ⟨b_5, 0, none⟩), .pointer (some ⟨b_5 + 1, 0, none⟩), .pointer (some ⟨b_5 + 2, 0, none⟩)], .func (.func 98) #[] #[], .func (.func 99) #[] #[.pointer (some ⟨b_5, 0, none⟩)], .func (.func 100) #[] #[.pointer (some ⟨b_5, 0, none⟩)]], ⟨rfl, fun i hi => by rw [bk_cell hT]; rcases (show i = 0 ∨ i = 1 ∨ i = 2 ∨ i = 3 ∨ i = 4 by omega) with rfl | rfl | rfl | rfl | rfl <;> rfl⟩, (NumE.below B6 HE5.out.1).mono (sz5)⟩
      · exact ⟨#[.int .i64 8, .func (.func 97) #[] #[.pointer (some ⟨b_6, 0, none⟩), .pointer (some ⟨b_6 + 1, 0, none⟩), .pointer (some ⟨b_6 + 2, 0, none⟩)], .func (.func 98) #[] #[], .func (.func 99) #[] #[.pointer (some ⟨b_6, 0, none⟩)], .func (.func 100) #[] #[.pointer (some ⟨b_6, 0, none⟩)]], ⟨rfl, fun i hi => by rw [bk_cell hT]; rcases (show i = 0 ∨ i = 1 ∨ i = 2 ∨ i = 3 ∨ i = 4 by omega) with rfl | rfl | rfl | rfl | rfl <;> rfl⟩, (NumE.below B7 HE6.out.1).mono (sz6)⟩
      · exact ⟨#[.int .i64 9, .func (.func 97) #[] #[.pointer (some ⟨b_7, 0, none⟩), .pointer (some ⟨b_7 + 1, 0, none⟩), .pointer (some ⟨b_7 + 2, 0, none⟩)], .func (.func 98) #[] #[], .func (.func 99) #[] #[.pointer (some ⟨b_7, 0, none⟩)], .func (.func 100) #[] #[.pointer (some ⟨b_7, 0, none⟩)]], ⟨rfl, fun i hi => by rw [bk_cell hT]; rcases (show i = 0 ∨ i = 1 ∨ i = 2 ∨ i = 3 ∨ i = 4 by omega) with rfl | rfl | rfl | rfl | rfl <;> rfl⟩, (NumE.below B8 HE7.out.1).mono (sz7)⟩
      · exact ⟨#[.int .i64 11, .func (.func 97) #[] #[.pointer (some ⟨b_8, 0, none⟩), .pointer (some ⟨b_8 + 1, 0, none⟩), .pointer (some ⟨b_8 + 2, 0, none⟩)], .func (.func 98) #[] #[], .func (.func 99) #[] #[.pointer (some ⟨b_8, 0, none⟩)], .func (.func 100) #[] #[.pointer (some ⟨b_8, 0, none⟩)]], ⟨rfl, fun i hi => by rw [bk_cell hT]; rcases (show i = 0 ∨ i = 1 ∨ i = 2 ∨ i = 3 ∨ i = 4 by omega) with rfl | rfl | rfl | rfl | rfl <;> rfl⟩, (NumE.below B9 HE8.out.1).mono (sz8)⟩
      · exact ⟨#[.int .i64 12, .func (.func 98) #[] #[], .func (.func 105) #[] #[.pointer (some ⟨b_9, 0, none⟩)], .func (.func 106) #[] #[], .func (.func 107) #[] #[.pointer (some ⟨b_9, 0, none⟩)]], ⟨rfl, fun i hi => by rw [bk_cell hT]; rcases (show i = 0 ∨ i = 1 ∨ i = 2 ∨ i = 3 ∨ i = 4 by omega) with rfl | rfl | rfl | rfl | rfl <;> rfl⟩, (FlgE.below B10 HE9.out.1).mono (sz9)⟩
      · exact ⟨#[.int .i64 14, .func (.func 97) #[] #[.pointer (some ⟨b_10, 0, none⟩), .pointer (some ⟨b_10 + 1, 0, none⟩), .pointer (some ⟨b_10 + 2, 0, none⟩)], .func (.func 98) #[] #[], .func (.func 99) #[] #[.pointer (some ⟨b_10, 0, none⟩)], .func (.func 100) #[] #[.pointer (some ⟨b_10, 0, none⟩)]], ⟨rfl, fun i hi => by rw [bk_cell hT]; rcases (show i = 0 ∨ i = 1 ∨ i = 2 ∨ i = 3 ∨ i = 4 by omega) with rfl | rfl | rfl | rfl | rfl <;> rfl⟩, (NumE.below B11 HE10.out.1).mono (sz10)⟩
      · exact ⟨#[.int .i64 15, .func (.func 110) #[] #[.pointer (some ⟨b_11 + 1, 0, none⟩), .pointer (some ⟨b_11, 0, none⟩)], .func (.func 98) #[] #[], .func (.func 111) #[] #[.pointer (some ⟨b_11, 0, none⟩)], .func (.func 112) #[] #[.pointer (some ⟨b_11, 0, none⟩)]], ⟨rfl, fun i hi => by rw [bk_cell hT]; rcases (show i = 0 ∨ i = 1 ∨ i = 2 ∨ i = 3 ∨ i = 4 by omega) with rfl | rfl | rfl | rfl | rfl <;> rfl⟩, (LstE.below B12 HE11.out.1).mono (sz11)⟩
      · exact ⟨#[.int .i64 32, .func (.func 97) #[] #[.pointer (some ⟨b_12, 0, none⟩), .pointer (some ⟨b_12 + 1, 0, none⟩), .pointer (some ⟨b_12 + 2, 0, none⟩)], .func (.func 98) #[] #[], .func (.func 99) #[] #[.pointer (some ⟨b_12, 0, none⟩)], .func (.func 100) #[] #[.pointer (some ⟨b_12, 0, none⟩)]], ⟨rfl, fun i hi => by rw [bk_cell hT]; rcases (show i = 0 ∨ i = 1 ∨ i = 2 ∨ i = 3 ∨ i = 4 by omega) with rfl | rfl | rfl | rfl | rfl <;> rfl⟩, (NumE.below B13 HE12.out.1).mono (sz12)⟩
    clear hT B0 B1 B2 B3 B4 B5 B6 B7 B8 B9 B10 B11 B12 B13 sz1 sz2 sz3 sz4 sz5 sz6 sz7 sz8 sz9 sz10 sz11 sz12 sz13 tl HE0 HE1 HE2 HE3 HE4 HE5 HE6 HE7 HE8 HE9 HE10 HE11 HE12
    rw [← eF]
    clear eF
    go_wp2
    go_ret
    exact ⟨_, rfl, PTF.out.1, PTF.out.2⟩
end Go.Proofs.YteggfkekgdlecaaGreatDoor

namespace Go.Proofs.YteggfkekgdlecaaGreatDoor
open Go.RowKit
set_option linter.unusedVariables false

theorem drewN_belowP {w w' : World} (h : ∃ n, w' = w.drewN n) : Below w.heap.size w w' := by
  obtain ⟨n, rfl⟩ := h
  exact below_drewN (Below.refl _ _) _
theorem eq_belowP {w w' : World} (h : w' = w) : Below w.heap.size w w' := by rw [h]; exact Below.refl _ _
theorem alwaysC (w : World) : Calls Tryz.prog 98 #[] w fun e w' => e = .returned (.bool true) ∧ w' = w := by
  go_enter Tryz.func98, Tryz.ntmps98
  go_wp2
  go_ret
  exact ⟨rfl, rfl⟩
set_option maxRecDepth 20000 in
theorem numV (b g off : Nat) (l h x : Int) (w : World) (c0 : w.cell? ⟨b, 0, none⟩ = some (.pointer (some ⟨g, off, none⟩))) (c1 : w.cell? ⟨b + 1, 0, none⟩ = some (.int .i64 l)) (c2 : w.cell? ⟨b + 2, 0, none⟩ = some (.int .i64 h)) (cx : w.cell? ⟨g, off, none⟩ = some (.int .i64 x)) :
    Calls Tryz.prog 97 #[.pointer (some ⟨b, 0, none⟩), .pointer (some ⟨b + 1, 0, none⟩), .pointer (some ⟨b + 2, 0, none⟩)] w fun e w' => e = .returned (.bool (btw l h x)) ∧ ∃ q, w' = w.drewN q := by
  by_cases h1 : l ≤ x
  · by_cases h2 : x ≤ h
    · have e : btw l h x = true := by simp [btw, h1, h2]
      rw [e]
      clear e
      go_enter Tryz.func97, Tryz.ntmps97
      go_wp2
      go_quiet (fail)
      go_wp2
      go_ret
      exact ⟨by first | rfl | (simp; done) | (simp [h2]; done), _, rfl⟩
    · have e : btw l h x = false := by simp [btw, h2]
      rw [e]
      clear e
      go_enter Tryz.func97, Tryz.ntmps97
      go_wp2
      go_quiet (fail)
      go_wp2
      go_ret
      exact ⟨by first | rfl | (simp; done) | (simp [h2]; done), _, rfl⟩
  · have e : btw l h x = false := by simp [btw, h1]
    rw [e]
    have hd : decide (l ≤ x) = false := decide_eq_false h1
    clear e h1
    go_enter Tryz.func97, Tryz.ntmps97
    go_wp2
    go_quiet (fail)
    go_wp2
    go_ret
    exact ⟨by first | rfl | (simp; done), _, rfl⟩
theorem orgM (c n : Nat) (s : Bool) (w : World) (hn : n ≤ 9223372036854775807) (hc : w.cell? ⟨c, 0, none⟩ = some (.bool s)) :
    Calls Tryz.prog 95 #[.int .i64 (n : Int), .pointer (some ⟨c, 0, none⟩)] w fun e w' => e = .returned (.bool (decide (n = 0) || (s && decide (n ≤ 8)))) ∧ w' = w := by
  rcases (show n = 0 ∨ (0 < n ∧ n ≤ 8) ∨ 8 < n by omega) with rfl | ⟨h0, h1⟩ | h0 <;> cases s
  all_goals go_enter Tryz.func95, Tryz.ntmps95
  all_goals go_wp2
  all_goals go_ret
  all_goals (refine ⟨?_, rfl⟩; first | rfl | (simp; done) | (simp; omega) | (simp; rw [Bool.eq_iff_iff]; simp; done) | (simp; rw [Bool.eq_iff_iff]; simp; omega))
theorem tokM (c n : Nat) (s : Bool) (w : World) (hn : n ≤ 9223372036854775807) (hc : w.cell? ⟨c, 0, none⟩ = some (.bool s)) :
    Calls Tryz.prog 102 #[.int .i64 (n : Int), .pointer (some ⟨c, 0, none⟩)] w fun e w' => e = .returned (.bool (decide (n = 0) || (s && decide (n = 8)))) ∧ w' = w := by
  rcases (show n = 0 ∨ n = 8 ∨ (n ≠ 0 ∧ n ≠ 8) by omega) with rfl | rfl | ⟨h0, h1⟩ <;> cases s
  all_goals go_enter Tryz.func102, Tryz.ntmps102
  all_goals go_wp2
  all_goals go_ret
  all_goals (refine ⟨?_, rfl⟩; first | rfl | (simp; done) | (simp; omega) | (simp; rw [Bool.eq_iff_iff]; simp; done) | (simp; rw [Bool.eq_iff_iff]; simp; omega))
theorem fstM (n : Nat) (w : World) (hn : n ≤ 9223372036854775807) :
    Calls Tryz.prog 108 #[.int .i64 (n : Int)] w fun e w' => e = .returned (.bool (decide (n ≤ 8))) ∧ w' = w := by
  go_enter Tryz.func108, Tryz.ntmps108
  go_wp2
  go_ret
  exact ⟨by simp; omega, rfl⟩

set_option maxRecDepth 20000 in
theorem orgV (b g off : Nat) (ao : Option Addr) (n cap : Nat) (c : Nat) (s : Bool) (w : World) (hn : n ≤ 9223372036854775807) (c0 : w.cell? ⟨b, 0, none⟩ = some (.pointer (some ⟨g, off, none⟩))) (c1 : w.cell? ⟨b + 1, 0, none⟩ = some (.func (.func 95) #[] #[.pointer (some ⟨c, 0, none⟩)])) (hc : w.cell? ⟨c, 0, none⟩ = some (.bool s)) (cx : w.cell? ⟨g, off, none⟩ = some (.slice ao n cap)) :
    Calls Tryz.prog 110 #[.pointer (some ⟨b + 1, 0, none⟩), .pointer (some ⟨b, 0, none⟩)] w fun e w' => e = .returned (.bool (decide (n = 0) || (s && decide (n ≤ 8)))) ∧ Below w.heap.size w w' := by
  have HC : Hid (∀ q, Calls Tryz.prog 95 #[.int .i64 (n : Int), .pointer (some ⟨c, 0, none⟩)] (w.drewN q) fun e w' => e = .returned (.bool (decide (n = 0) || (s && decide (n ≤ 8)))) ∧ w' = w.drewN q) := fun q => orgM c n s _ hn hc
  obtain ⟨R, eR⟩ : ∃ R, R = (decide (n = 0) || (s && decide (n ≤ 8))) := ⟨_, rfl⟩
  rw [← eR] at HC ⊢
  clear eR hc
  go_enter Tryz.func110, Tryz.ntmps110
  go_upto_region 1 with fail
  go_region_with (go_at_call 95; refine (HC.out 1).mono ?_; rintro e w' ⟨rfl, hw⟩; subst w')
  all_goals (go_wp2; go_ret; exact ⟨rfl, below_drewN (Below.refl _ _) 1⟩)
set_option maxRecDepth 20000 in
theorem tokV (b g off : Nat) (ao : Option Addr) (n cap : Nat) (c : Nat) (s : Bool) (w : World) (hn : n ≤ 9223372036854775807) (c0 : w.cell? ⟨b, 0, none⟩ = some (.pointer (some ⟨g, off, none⟩))) (c1 : w.cell? ⟨b + 1, 0, none⟩ = some (.func (.func 102) #[] #[.pointer (some ⟨c, 0, none⟩)])) (hc : w.cell? ⟨c, 0, none⟩ = some (.bool s)) (cx : w.cell? ⟨g, off, none⟩ = some (.slice ao n cap)) :
    Calls Tryz.prog 110 #[.pointer (some ⟨b + 1, 0, none⟩), .pointer (some ⟨b, 0, none⟩)] w fun e w' => e = .returned (.bool (decide (n = 0) || (s && decide (n = 8)))) ∧ Below w.heap.size w w' := by
  have HC : Hid (∀ q, Calls Tryz.prog 102 #[.int .i64 (n : Int), .pointer (some ⟨c, 0, none⟩)] (w.drewN q) fun e w' => e = .returned (.bool (decide (n = 0) || (s && decide (n = 8)))) ∧ w' = w.drewN q) := fun q => tokM c n s _ hn hc
  obtain ⟨R, eR⟩ : ∃ R, R = (decide (n = 0) || (s && decide (n = 8))) := ⟨_, rfl⟩
  rw [← eR] at HC ⊢
  clear eR hc
  go_enter Tryz.func110, Tryz.ntmps110
  go_upto_region 1 with fail
  go_region_with (go_at_call 102; refine (HC.out 1).mono ?_; rintro e w' ⟨rfl, hw⟩; subst w')
  all_goals (go_wp2; go_ret; exact ⟨rfl, below_drewN (Below.refl _ _) 1⟩)
set_option maxRecDepth 20000 in
theorem fstV (b g off : Nat) (ao : Option Addr) (n cap : Nat)  (w : World) (hn : n ≤ 9223372036854775807) (c0 : w.cell? ⟨b, 0, none⟩ = some (.pointer (some ⟨g, off, none⟩))) (c1 : w.cell? ⟨b + 1, 0, none⟩ = some (.func (.func 108) #[] #[])) (cx : w.cell? ⟨g, off, none⟩ = some (.slice ao n cap)) :
    Calls Tryz.prog 110 #[.pointer (some ⟨b + 1, 0, none⟩), .pointer (some ⟨b, 0, none⟩)] w fun e w' => e = .returned (.bool (decide (n ≤ 8))) ∧ Below w.heap.size w w' := by
  have HC : Hid (∀ q, Calls Tryz.prog 108 #[.int .i64 (n : Int)] (w.drewN q) fun e w' => e = .returned (.bool (decide (n ≤ 8))) ∧ w' = w.drewN q) := fun q => fstM n _ hn
  obtain ⟨R, eR⟩ : ∃ R, R = (decide (n ≤ 8)) := ⟨_, rfl⟩
  rw [← eR] at HC ⊢
  clear eR
  go_enter Tryz.func110, Tryz.ntmps110
  go_upto_region 1 with fail
  go_region_with (go_at_call 108; refine (HC.out 1).mono ?_; rintro e w' ⟨rfl, hw⟩; subst w')
  all_goals (go_wp2; go_ret; exact ⟨rfl, below_drewN (Below.refl _ _) 1⟩)
end Go.Proofs.YteggfkekgdlecaaGreatDoor

namespace Go.Proofs.YteggfkekgdlecaaGreatDoor
open Go.RowKit
set_option linter.unusedVariables false

theorem pok_false (p : PP) (s : Bool) (k : Nat) (h : (pokL p s).getD k true = false) : pok p s = false := by
  unfold pok
  rw [List.all_eq_false]
  by_cases hk : k < (pokL p s).length
  · refine ⟨(pokL p s)[k], List.getElem_mem hk, ?_⟩
    simp [List.getD, hk] at h
    simp [h]
  · exfalso
    simp [List.getD, List.getElem?_eq_none (Nat.le_of_not_lt hk)] at h
theorem pok_true (p : PP) (s : Bool) (h : ∀ j, j < 13 → (pokL p s).getD j true = true) : pok p s = true := by
  unfold pok
  rw [List.all_eq_true]
  intro x hx
  obtain ⟨i, hi, rfl⟩ := List.getElem_of_mem hx
  have := h i (by simpa [pokL] using hi)
  simpa [List.getD, hi] using this

set_option maxRecDepth 20000 in
set_option maxHeartbeats 8000000 in
theorem pokI (v : Value) (p : PP) (s : Bool) (w : World) (hr : PPRow w v p) (hs : p.small 9223372036854775807) :
    Calls Tryz.prog 72 #[v, .bool s] w fun e w' => e = .returned (.bool (pok p s)) ∧ Below w.heap.size w w' := by
  obtain ⟨d2, d3, d4, p2, p3, p4, rfl, -, -, -⟩ := hr.parts
  obtain ⟨s0, s1, s2⟩ := hs
  have g0 : (w.alloc (.cells #[.int .i64 p.a0, .int .i64 p.a1, .int .i64 p.a2, .int .i64 p.a3, .int .i64 p.a4, .int .i64 p.a5, .int .i64 p.a6, .int .i64 p.a7, .int .i64 p.a8, .bool p.m, .slice d2 p.o.length p2, .slice d3 p.t.length p3, .slice d4 p.f.length p4] 35)).heap[w.heap.size]? = some (.cells #[.int .i64 p.a0, .int .i64 p.a1, .int .i64 p.a2, .int .i64 p.a3, .int .i64 p.a4, .int .i64 p.a5, .int .i64 p.a6, .int .i64 p.a7, .int .i64 p.a8, .bool p.m, .slice d2 p.o.length p2, .slice d3 p.t.length p3, .slice d4 p.f.length p4] 35 (0, 0)) := heap_alloc_new w _
  obtain ⟨R, eR⟩ : ∃ R, R = pok p s := ⟨_, rfl⟩
  rw [← eR]
  obtain ⟨wa, ea⟩ : ∃ wa, wa = w.alloc (.cells #[.int .i64 p.a0, .int .i64 p.a1, .int .i64 p.a2, .int .i64 p.a3, .int .i64 p.a4, .int .i64 p.a5, .int .i64 p.a6, .int .i64 p.a7, .int .i64 p.a8, .bool p.m, .slice d2 p.o.length p2, .slice d3 p.t.length p3, .slice d4 p.f.length p4] 35) := ⟨_, rfl⟩
  have b0 : Below w.heap.size w wa := by rw [ea]; exact (Below.refl _ _).alloc (Nat.le_refl _) _
  have sa : wa.heap.size = w.heap.size + 1 := by rw [ea]; simp
  rw [← ea] at g0
  have H0 : Hid _ := And.intro (parTableC w.heap.size s wa) (And.intro b0 (And.intro g0 (And.intro sa (And.intro eR (And.intro ea (And.intro s0 (And.intro s1 s2)))))))
  clear hr g0 b0 eR sa ea s0 s1 s2
  go_enter Tryz.func72, Tryz.ntmps72
  go_wp2_with fail
  rw [← H0.out.2.2.2.2.2.1]
  go_at_call 76
  refine H0.out.1.mono ?_
  rintro e w1 ⟨T, rfl, PT, b1⟩
  have H1 : Hid _ := And.intro PT (And.intro (H0.out.2.1.trans (b1.mono H0.out.2.1.size)) ((b1.block w.heap.size (by rw [H0.out.2.2.2.1]; omega)).trans H0.out.2.2.1))
  clear PT b1
  go_wp2_with fail
  go_loopg [10] 13 (fun q i wr => ∃ k : Nat, k ≤ 13 ∧ q = 13 - k ∧ i = .int .i64 (k : Int) ∧ Below w1.heap.size w1 wr ∧ ∀ j, j < k → (pokL p s).getD j true = true)
  case atStart => exact ⟨0, Nat.zero_le _, rfl, rfl, Below.refl _ _, fun j h => by omega⟩
  case round =>
    obtain ⟨k, hk, rfl, rfl, hbx, hno⟩ := hrel
    have HN : Hid _ := And.intro hno hbx
    have gx : wr.heap[w.heap.size]? = some (.cells #[.int .i64 p.a0, .int .i64 p.a1, .int .i64 p.a2, .int .i64 p.a3, .int .i64 p.a4, .int .i64 p.a5, .int .i64 p.a6, .int .i64 p.a7, .int .i64 p.a8, .bool p.m, .slice d2 p.o.length p2, .slice d3 p.t.length p3, .slice d4 p.f.length p4] 35 (0, 0)) := (hbx.block w.heap.size (Array.getElem?_eq_some_iff.1 H1.out.2.2).1).trans H1.out.2.2
    have HG : Hid _ := And.intro gx True.intro
    clear hno hbx gx
    rcases (show k = 13 ∨ k = 0 ∨ k = 1 ∨ k = 2 ∨ k = 3 ∨ k = 4 ∨ k = 5 ∨ k = 6 ∨ k = 7 ∨ k = 8 ∨ k = 9 ∨ k = 10 ∨ k = 11 ∨ k = 12 by omega) with rfl | rfl | rfl | rfl | rfl | rfl | rfl | rfl | rfl | rfl | rfl | rfl | rfl | rfl
    · go_wp2
      go_ret
      exact ⟨by rw [H0.out.2.2.2.2.1, pok_true p s HN.out.1]; rfl, H1.out.2.1.trans (HN.out.2.mono H1.out.2.1.size)⟩
    · obtain ⟨cs, ⟨hz, hc⟩, hE⟩ := H1.out.1.e0
      obtain ⟨b, c, rfl, h0, u0, l0, h1, u1, l1, h2, u2, l2⟩ := OrgE.below HN.out.2 hE
      have ht : T < w1.heap.size := H1.out.1.lt.2
      have t0 : wr.cell? ⟨T, 0, none⟩ = some (.int .i64 0) := (HN.out.2.cell (p := ⟨T, 0, none⟩) ht).trans (hc 0 (by decide))
      have t1 : wr.cell? ⟨T, 1, none⟩ = some (.func (.func 110) #[] #[.pointer (some ⟨(b + 1), 0, none⟩), .pointer (some ⟨b, 0, none⟩)]) := (HN.out.2.cell (p := ⟨T, 1, none⟩) ht).trans (hc 1 (by decide))
      have t2 : wr.cell? ⟨T, 2, none⟩ = some (.func (.func 96) #[] #[.pointer (some ⟨c, 0, none⟩)]) := (HN.out.2.cell (p := ⟨T, 2, none⟩) ht).trans (hc 2 (by decide))
      have t3 : wr.cell? ⟨T, 3, none⟩ = some (.func (.func 111) #[] #[.pointer (some ⟨b, 0, none⟩)]) := (HN.out.2.cell (p := ⟨T, 3, none⟩) ht).trans (hc 3 (by decide))
      have t4 : wr.cell? ⟨T, 4, none⟩ = some (.func (.func 112) #[] #[.pointer (some ⟨b, 0, none⟩)]) := (HN.out.2.cell (p := ⟨T, 4, none⟩) ht).trans (hc 4 (by decide))
      have cx : wr.cell? ⟨w.heap.size, 10, none⟩ = some (.slice d2 p.o.length p2) := by rw [bk_cell HG.out.1]; rfl
      have B1 : ∀ o, Below wr.heap.size wr (wr.alloc o) := fun o => (Below.refl _ _).alloc (Nat.le_refl _) o
      have CV := orgV b w.heap.size 10 d2 p.o.length p2 c s (wr.alloc (.cells #[.int .i64 0, .func (.func 110) #[] #[.pointer (some ⟨(b + 1), 0, none⟩), .pointer (some ⟨b, 0, none⟩)], .func (.func 96) #[] #[.pointer (some ⟨c, 0, none⟩)], .func (.func 111) #[] #[.pointer (some ⟨b, 0, none⟩)], .func (.func 112) #[] #[.pointer (some ⟨b, 0, none⟩)]] 105)) H0.out.2.2.2.2.2.2.1 (((B1 _).cell (p := ⟨b, 0, none⟩) l0).trans h0) (((B1 _).cell (p := ⟨b + 1, 0, none⟩) l1).trans h1) (((B1 _).cell (p := ⟨c, 0, none⟩) l2).trans h2) (((B1 _).cell (p := ⟨w.heap.size, 10, none⟩) (Array.getElem?_eq_some_iff.1 HG.out.1).1).trans cx)
      obtain ⟨t, et⟩ : ∃ t : Bool, t = (decide (p.o.length = 0) || (s && decide (p.o.length ≤ 8))) := ⟨_, rfl⟩
      rw [← et] at CV
      have HV : Hid _ := And.intro CV (And.intro et (B1 (.cells #[.int .i64 0, .func (.func 110) #[] #[.pointer (some ⟨(b + 1), 0, none⟩), .pointer (some ⟨b, 0, none⟩)], .func (.func 96) #[] #[.pointer (some ⟨c, 0, none⟩)], .func (.func 111) #[] #[.pointer (some ⟨b, 0, none⟩)], .func (.func 112) #[] #[.pointer (some ⟨b, 0, none⟩)]] 105)))
      clear CV et hc hz hE B1 h0 u0 l0 h1 u1 l1 h2 u2 l2 cx
      cases t
      · go_wp2_with (go_at_call 110; refine HV.out.1.mono ?_; rintro e w2 ⟨rfl, b2⟩)
        go_ret
        refine ⟨?_, (H1.out.2.1.trans (HN.out.2.mono H1.out.2.1.size)).trans ((HV.out.2.2.trans (b2.mono HV.out.2.2.size)).mono (Nat.le_trans H1.out.2.1.size HN.out.2.size))⟩
        rw [H0.out.2.2.2.2.1, pok_false p s 0 HV.out.2.1.symm]
        rfl
      · go_wp2_with (go_at_call 110; refine HV.out.1.mono ?_; rintro e w2 ⟨rfl, b2⟩)
        go_roundg (13 - (0 + 1))
        case measure => omega
        case rel =>
          refine ⟨1, by omega, rfl, by go_num, HN.out.2.trans ((HV.out.2.2.trans (b2.mono HV.out.2.2.size)).mono HN.out.2.size), fun j hj => ?_⟩
          by_cases hjk : j < 0
          · exact HN.out.1 j hjk
          · obtain rfl : j = 0 := by omega
            exact HV.out.2.1.symm
    · obtain ⟨cs, ⟨hz, hc⟩, hE⟩ := H1.out.1.e1
      obtain ⟨b, rfl, h0, u0, l0, h1, u1, l1, h2, u2, l2⟩ := NumE.below HN.out.2 hE
      have ht : T < w1.heap.size := H1.out.1.lt.2
      have t0 : wr.cell? ⟨T, 5, none⟩ = some (.int .i64 1) := (HN.out.2.cell (p := ⟨T, 5, none⟩) ht).trans (hc 0 (by decide))
      have t1 : wr.cell? ⟨T, 6, none⟩ = some (.func (.func 97) #[] #[.pointer (some ⟨b, 0, none⟩), .pointer (some ⟨(b + 1), 0, none⟩), .pointer (some ⟨(b + 2), 0, none⟩)]) := (HN.out.2.cell (p := ⟨T, 6, none⟩) ht).trans (hc 1 (by decide))
      have t2 : wr.cell? ⟨T, 7, none⟩ = some (.func (.func 98) #[] #[]) := (HN.out.2.cell (p := ⟨T, 7, none⟩) ht).trans (hc 2 (by decide))
      have t3 : wr.cell? ⟨T, 8, none⟩ = some (.func (.func 99) #[] #[.pointer (some ⟨b, 0, none⟩)]) := (HN.out.2.cell (p := ⟨T, 8, none⟩) ht).trans (hc 3 (by decide))
      have t4 : wr.cell? ⟨T, 9, none⟩ = some (.func (.func 100) #[] #[.pointer (some ⟨b, 0, none⟩)]) := (HN.out.2.cell (p := ⟨T, 9, none⟩) ht).trans (hc 4 (by decide))
      have cx : wr.cell? ⟨w.heap.size, 0, none⟩ = some (.int .i64 p.a0) := by rw [bk_cell HG.out.1]; rfl
      have B1 : ∀ o, Below wr.heap.size wr (wr.alloc o) := fun o => (Below.refl _ _).alloc (Nat.le_refl _) o
      have CV := (numV b w.heap.size 0 0 1000000000000 p.a0 (wr.alloc (.cells #[.int .i64 1, .func (.func 97) #[] #[.pointer (some ⟨b, 0, none⟩), .pointer (some ⟨(b + 1), 0, none⟩), .pointer (some ⟨(b + 2), 0, none⟩)], .func (.func 98) #[] #[], .func (.func 99) #[] #[.pointer (some ⟨b, 0, none⟩)], .func (.func 100) #[] #[.pointer (some ⟨b, 0, none⟩)]] 105)) (((B1 _).cell (p := ⟨b, 0, none⟩) l0).trans h0) (((B1 _).cell (p := ⟨b + 1, 0, none⟩) l1).trans h1) (((B1 _).cell (p := ⟨b + 2, 0, none⟩) l2).trans h2) (((B1 _).cell (p := ⟨w.heap.size, 0, none⟩) (Array.getElem?_eq_some_iff.1 HG.out.1).1).trans cx)).mono (fun e w' h => And.intro h.1 (drewN_belowP h.2))
      obtain ⟨t, et⟩ : ∃ t : Bool, t = (btw 0 1000000000000 p.a0) := ⟨_, rfl⟩
      rw [← et] at CV
      have HV : Hid _ := And.intro CV (And.intro et (B1 (.cells #[.int .i64 1, .func (.func 97) #[] #[.pointer (some ⟨b, 0, none⟩), .pointer (some ⟨(b + 1), 0, none⟩), .pointer (some ⟨(b + 2), 0, none⟩)], .func (.func 98) #[] #[], .func (.func 99) #[] #[.pointer (some ⟨b, 0, none⟩)], .func (.func 100) #[] #[.pointer (some ⟨b, 0, none⟩)]] 105)))
      clear CV et hc hz hE B1 h0 u0 l0 h1 u1 l1 h2 u2 l2 cx
      cases t
      · go_wp2_with (go_at_call 97; refine HV.out.1.mono ?_; rintro e w2 ⟨rfl, b2⟩)
        go_ret
        refine ⟨?_, (H1.out.2.1.trans (HN.out.2.mono H1.out.2.1.size)).trans ((HV.out.2.2.trans (b2.mono HV.out.2.2.size)).mono (Nat.le_trans H1.out.2.1.size HN.out.2.size))⟩
        rw [H0.out.2.2.2.2.1, pok_false p s 1 HV.out.2.1.symm]
        rfl
      · go_wp2_with (go_at_call 97; refine HV.out.1.mono ?_; rintro e w2 ⟨rfl, b2⟩)
        go_roundg (13 - (1 + 1))
        case measure => omega
        case rel =>
          refine ⟨2, by omega, rfl, by go_num, HN.out.2.trans ((HV.out.2.2.trans (b2.mono HV.out.2.2.size)).mono HN.out.2.size), fun j hj => ?_⟩
          by_cases hjk : j < 1
          · exact HN.out.1 j hjk
          · obtain rfl : j = 1 := by omega
            exact HV.out.2.1.symm
    · obtain ⟨cs, ⟨hz, hc⟩, hE⟩ := H1.out.1.e2
      obtain ⟨b, c, d, x, rfl, h0, u0, l0, h1, u1, l1, h2, u2, l2, h3, u3, l3, h4, u4, l4⟩ := TokE.below HN.out.2 hE
      have ht : T < w1.heap.size := H1.out.1.lt.2
      have t0 : wr.cell? ⟨T, 10, none⟩ = some (.int .i64 2) := (HN.out.2.cell (p := ⟨T, 10, none⟩) ht).trans (hc 0 (by decide))
      have t1 : wr.cell? ⟨T, 11, none⟩ = some (.func (.func 110) #[] #[.pointer (some ⟨(b + 1), 0, none⟩), .pointer (some ⟨b, 0, none⟩)]) := (HN.out.2.cell (p := ⟨T, 11, none⟩) ht).trans (hc 1 (by decide))
      have t2 : wr.cell? ⟨T, 12, none⟩ = some (.func (.func 103) #[] #[.pointer (some ⟨c, 0, none⟩)]) := (HN.out.2.cell (p := ⟨T, 12, none⟩) ht).trans (hc 2 (by decide))
      have t3 : wr.cell? ⟨T, 13, none⟩ = some (.func (.func 111) #[] #[.pointer (some ⟨b, 0, none⟩)]) := (HN.out.2.cell (p := ⟨T, 13, none⟩) ht).trans (hc 3 (by decide))
      have t4 : wr.cell? ⟨T, 14, none⟩ = some (.func (.func 104) #[] #[.pointer (some ⟨c, 0, none⟩), .pointer (some ⟨x, 0, none⟩)]) := (HN.out.2.cell (p := ⟨T, 14, none⟩) ht).trans (hc 4 (by decide))
      have cx : wr.cell? ⟨w.heap.size, 11, none⟩ = some (.slice d3 p.t.length p3) := by rw [bk_cell HG.out.1]; rfl
      have B1 : ∀ o, Below wr.heap.size wr (wr.alloc o) := fun o => (Below.refl _ _).alloc (Nat.le_refl _) o
      have CV := tokV b w.heap.size 11 d3 p.t.length p3 d s (wr.alloc (.cells #[.int .i64 2, .func (.func 110) #[] #[.pointer (some ⟨(b + 1), 0, none⟩), .pointer (some ⟨b, 0, none⟩)], .func (.func 103) #[] #[.pointer (some ⟨c, 0, none⟩)], .func (.func 111) #[] #[.pointer (some ⟨b, 0, none⟩)], .func (.func 104) #[] #[.pointer (some ⟨c, 0, none⟩), .pointer (some ⟨x, 0, none⟩)]] 105)) H0.out.2.2.2.2.2.2.2.1 (((B1 _).cell (p := ⟨b, 0, none⟩) l0).trans h0) (((B1 _).cell (p := ⟨b + 1, 0, none⟩) l1).trans h1) (((B1 _).cell (p := ⟨d, 0, none⟩) l3).trans h3) (((B1 _).cell (p := ⟨w.heap.size, 11, none⟩) (Array.getElem?_eq_some_iff.1 HG.out.1).1).trans cx)
      obtain ⟨t, et⟩ : ∃ t : Bool, t = (decide (p.t.length = 0) || (s && decide (p.t.length = 8))) := ⟨_, rfl⟩
      rw [← et] at CV
      have HV : Hid _ := And.intro CV (And.intro et (B1 (.cells #[.int .i64 2, .func (.func 110) #[] #[.pointer (some ⟨(b + 1), 0, none⟩), .pointer (some ⟨b, 0, none⟩)], .func (.func 103) #[] #[.pointer (some ⟨c, 0, none⟩)], .func (.func 111) #[] #[.pointer (some ⟨b, 0, none⟩)], .func (.func 104) #[] #[.pointer (some ⟨c, 0, none⟩), .pointer (some ⟨x, 0, none⟩)]] 105)))
      clear CV et hc hz hE B1 h0 u0 l0 h1 u1 l1 h2 u2 l2 h3 u3 l3 h4 u4 l4 cx
      cases t
      · go_wp2_with (go_at_call 110; refine HV.out.1.mono ?_; rintro e w2 ⟨rfl, b2⟩)
        go_ret
        refine ⟨?_, (H1.out.2.1.trans (HN.out.2.mono H1.out.2.1.size)).trans ((HV.out.2.2.trans (b2.mono HV.out.2.2.size)).mono (Nat.le_trans H1.out.2.1.size HN.out.2.size))⟩
        rw [H0.out.2.2.2.2.1, pok_false p s 2 HV.out.2.1.symm]
        rfl
      · go_wp2_with (go_at_call 110; refine HV.out.1.mono ?_; rintro e w2 ⟨rfl, b2⟩)
        go_roundg (13 - (2 + 1))
        case measure => omega
        case rel =>
          refine ⟨3, by omega, rfl, by go_num, HN.out.2.trans ((HV.out.2.2.trans (b2.mono HV.out.2.2.size)).mono HN.out.2.size), fun j hj => ?_⟩
          by_cases hjk : j < 2
          · exact HN.out.1 j hjk
          · obtain rfl : j = 2 := by omega
            exact HV.out.2.1.symm
    · obtain ⟨cs, ⟨hz, hc⟩, hE⟩ := H1.out.1.e3
      obtain ⟨b, rfl, h0, u0, l0, h1, u1, l1, h2, u2, l2⟩ := NumE.below HN.out.2 hE
      have ht : T < w1.heap.size := H1.out.1.lt.2
      have t0 : wr.cell? ⟨T, 15, none⟩ = some (.int .i64 3) := (HN.out.2.cell (p := ⟨T, 15, none⟩) ht).trans (hc 0 (by decide))
      have t1 : wr.cell? ⟨T, 16, none⟩ = some (.func (.func 97) #[] #[.pointer (some ⟨b, 0, none⟩), .pointer (some ⟨(b + 1), 0, none⟩), .pointer (some ⟨(b + 2), 0, none⟩)]) := (HN.out.2.cell (p := ⟨T, 16, none⟩) ht).trans (hc 1 (by decide))
      have t2 : wr.cell? ⟨T, 17, none⟩ = some (.func (.func 98) #[] #[]) := (HN.out.2.cell (p := ⟨T, 17, none⟩) ht).trans (hc 2 (by decide))
      have t3 : wr.cell? ⟨T, 18, none⟩ = some (.func (.func 99) #[] #[.pointer (some ⟨b, 0, none⟩)]) := (HN.out.2.cell (p := ⟨T, 18, none⟩) ht).trans (hc 3 (by decide))
      have t4 : wr.cell? ⟨T, 19, none⟩ = some (.func (.func 100) #[] #[.pointer (some ⟨b, 0, none⟩)]) := (HN.out.2.cell (p := ⟨T, 19, none⟩) ht).trans (hc 4 (by decide))
      have cx : wr.cell? ⟨w.heap.size, 1, none⟩ = some (.int .i64 p.a1) := by rw [bk_cell HG.out.1]; rfl
      have B1 : ∀ o, Below wr.heap.size wr (wr.alloc o) := fun o => (Below.refl _ _).alloc (Nat.le_refl _) o
      have CV := (numV b w.heap.size 1 1200 2000 p.a1 (wr.alloc (.cells #[.int .i64 3, .func (.func 97) #[] #[.pointer (some ⟨b, 0, none⟩), .pointer (some ⟨(b + 1), 0, none⟩), .pointer (some ⟨(b + 2), 0, none⟩)], .func (.func 98) #[] #[], .func (.func 99) #[] #[.pointer (some ⟨b, 0, none⟩)], .func (.func 100) #[] #[.pointer (some ⟨b, 0, none⟩)]] 105)) (((B1 _).cell (p := ⟨b, 0, none⟩) l0).trans h0) (((B1 _).cell (p := ⟨b + 1, 0, none⟩) l1).trans h1) (((B1 _).cell (p := ⟨b + 2, 0, none⟩) l2).trans h2) (((B1 _).cell (p := ⟨w.heap.size, 1, none⟩) (Array.getElem?_eq_some_iff.1 HG.out.1).1).trans cx)).mono (fun e w' h => And.intro h.1 (drewN_belowP h.2))
      obtain ⟨t, et⟩ : ∃ t : Bool, t = (btw 1200 2000 p.a1) := ⟨_, rfl⟩
      rw [← et] at CV
      have HV : Hid _ := And.intro CV (And.intro et (B1 (.cells #[.int .i64 3, .func (.func 97) #[] #[.pointer (some ⟨b, 0, none⟩), .pointer (some ⟨(b + 1), 0, none⟩), .pointer (some ⟨(b + 2), 0, none⟩)], .func (.func 98) #[] #[], .func (.func 99) #[] #[.pointer (some ⟨b, 0, none⟩)], .func (.func 100) #[] #[.pointer (some ⟨b, 0, none⟩)]] 105)))
      clear CV et hc hz hE B1 h0 u0 l0 h1 u1 l1 h2 u2 l2 cx
      cases t
      · go_wp2_with (go_at_call 97; refine HV.out.1.mono ?_; rintro e w2 ⟨rfl, b2⟩)
        go_ret
        refine ⟨?_, (H1.out.2.1.trans (HN.out.2.mono H1.out.2.1.size)).trans ((HV.out.2.2.trans (b2.mono HV.out.2.2.size)).mono (Nat.le_trans H1.out.2.1.size HN.out.2.size))⟩
        rw [H0.out.2.2.2.2.1, pok_false p s 3 HV.out.2.1.symm]
        rfl
      · go_wp2_with (go_at_call 97; refine HV.out.1.mono ?_; rintro e w2 ⟨rfl, b2⟩)
        go_roundg (13 - (3 + 1))
        case measure => omega
        case rel =>
          refine ⟨4, by omega, rfl, by go_num, HN.out.2.trans ((HV.out.2.2.trans (b2.mono HV.out.2.2.size)).mono HN.out.2.size), fun j hj => ?_⟩
          by_cases hjk : j < 3
          · exact HN.out.1 j hjk
          · obtain rfl : j = 3 := by omega
            exact HV.out.2.1.symm
    · obtain ⟨cs, ⟨hz, hc⟩, hE⟩ := H1.out.1.e4
      obtain ⟨b, rfl, h0, u0, l0, h1, u1, l1, h2, u2, l2⟩ := NumE.below HN.out.2 hE
      have ht : T < w1.heap.size := H1.out.1.lt.2
      have t0 : wr.cell? ⟨T, 20, none⟩ = some (.int .i64 4) := (HN.out.2.cell (p := ⟨T, 20, none⟩) ht).trans (hc 0 (by decide))
      have t1 : wr.cell? ⟨T, 21, none⟩ = some (.func (.func 97) #[] #[.pointer (some ⟨b, 0, none⟩), .pointer (some ⟨(b + 1), 0, none⟩), .pointer (some ⟨(b + 2), 0, none⟩)]) := (HN.out.2.cell (p := ⟨T, 21, none⟩) ht).trans (hc 1 (by decide))
      have t2 : wr.cell? ⟨T, 22, none⟩ = some (.func (.func 98) #[] #[]) := (HN.out.2.cell (p := ⟨T, 22, none⟩) ht).trans (hc 2 (by decide))
      have t3 : wr.cell? ⟨T, 23, none⟩ = some (.func (.func 99) #[] #[.pointer (some ⟨b, 0, none⟩)]) := (HN.out.2.cell (p := ⟨T, 23, none⟩) ht).trans (hc 3 (by decide))
      have t4 : wr.cell? ⟨T, 24, none⟩ = some (.func (.func 100) #[] #[.pointer (some ⟨b, 0, none⟩)]) := (HN.out.2.cell (p := ⟨T, 24, none⟩) ht).trans (hc 4 (by decide))
      have cx : wr.cell? ⟨w.heap.size, 2, none⟩ = some (.int .i64 p.a2) := by rw [bk_cell HG.out.1]; rfl
      have B1 : ∀ o, Below wr.heap.size wr (wr.alloc o) := fun o => (Below.refl _ _).alloc (Nat.le_refl _) o
      have CV := (numV b w.heap.size 2 1 16384 p.a2 (wr.alloc (.cells #[.int .i64 4, .func (.func 97) #[] #[.pointer (some ⟨b, 0, none⟩), .pointer (some ⟨(b + 1), 0, none⟩), .pointer (some ⟨(b + 2), 0, none⟩)], .func (.func 98) #[] #[], .func (.func 99) #[] #[.pointer (some ⟨b, 0, none⟩)], .func (.func 100) #[] #[.pointer (some ⟨b, 0, none⟩)]] 105)) (((B1 _).cell (p := ⟨b, 0, none⟩) l0).trans h0) (((B1 _).cell (p := ⟨b + 1, 0, none⟩) l1).trans h1) (((B1 _).cell (p := ⟨b + 2, 0, none⟩) l2).trans h2) (((B1 _).cell (p := ⟨w.heap.size, 2, none⟩) (Array.getElem?_eq_some_iff.1 HG.out.1).1).trans cx)).mono (fun e w' h => And.intro h.1 (drewN_belowP h.2))
      obtain ⟨t, et⟩ : ∃ t : Bool, t = (btw 1 16384 p.a2) := ⟨_, rfl⟩
      rw [← et] at CV
      have HV : Hid _ := And.intro CV (And.intro et (B1 (.cells #[.int .i64 4, .func (.func 97) #[] #[.pointer (some ⟨b, 0, none⟩), .pointer (some ⟨(b + 1), 0, none⟩), .pointer (some ⟨(b + 2), 0, none⟩)], .func (.func 98) #[] #[], .func (.func 99) #[] #[.pointer (some ⟨b, 0, none⟩)], .func (.func 100) #[] #[.pointer (some ⟨b, 0, none⟩)]] 105)))
      clear CV et hc hz hE B1 h0 u0 l0 h1 u1 l1 h2 u2 l2 cx
      cases t
      · go_wp2_with (go_at_call 97; refine HV.out.1.mono ?_; rintro e w2 ⟨rfl, b2⟩)
        go_ret
        refine ⟨?_, (H1.out.2.1.trans (HN.out.2.mono H1.out.2.1.size)).trans ((HV.out.2.2.trans (b2.mono HV.out.2.2.size)).mono (Nat.le_trans H1.out.2.1.size HN.out.2.size))⟩
        rw [H0.out.2.2.2.2.1, pok_false p s 4 HV.out.2.1.symm]
        rfl
      · go_wp2_with (go_at_call 97; refine HV.out.1.mono ?_; rintro e w2 ⟨rfl, b2⟩)
        go_roundg (13 - (4 + 1))
        case measure => omega
        case rel =>
          refine ⟨5, by omega, rfl, by go_num, HN.out.2.trans ((HV.out.2.2.trans (b2.mono HV.out.2.2.size)).mono HN.out.2.size), fun j hj => ?_⟩
          by_cases hjk : j < 4
          · exact HN.out.1 j hjk
          · obtain rfl : j = 4 := by omega
            exact HV.out.2.1.symm
    · obtain ⟨cs, ⟨hz, hc⟩, hE⟩ := H1.out.1.e5
      obtain ⟨b, rfl, h0, u0, l0, h1, u1, l1, h2, u2, l2⟩ := NumE.below HN.out.2 hE
      have ht : T < w1.heap.size := H1.out.1.lt.2
      have t0 : wr.cell? ⟨T, 25, none⟩ = some (.int .i64 5) := (HN.out.2.cell (p := ⟨T, 25, none⟩) ht).trans (hc 0 (by decide))
      have t1 : wr.cell? ⟨T, 26, none⟩ = some (.func (.func 97) #[] #[.pointer (some ⟨b, 0, none⟩), .pointer (some ⟨(b + 1), 0, none⟩), .pointer (some ⟨(b + 2), 0, none⟩)]) := (HN.out.2.cell (p := ⟨T, 26, none⟩) ht).trans (hc 1 (by decide))
      have t2 : wr.cell? ⟨T, 27, none⟩ = some (.func (.func 98) #[] #[]) := (HN.out.2.cell (p := ⟨T, 27, none⟩) ht).trans (hc 2 (by decide))
      have t3 : wr.cell? ⟨T, 28, none⟩ = some (.func (.func 99) #[] #[.pointer (some ⟨b, 0, none⟩)]) := (HN.out.2.cell (p := ⟨T, 28, none⟩) ht).trans (hc 3 (by decide))
      have t4 : wr.cell? ⟨T, 29, none⟩ = some (.func (.func 100) #[] #[.pointer (some ⟨b, 0, none⟩)]) := (HN.out.2.cell (p := ⟨T, 29, none⟩) ht).trans (hc 4 (by decide))
      have cx : wr.cell? ⟨w.heap.size, 3, none⟩ = some (.int .i64 p.a3) := by rw [bk_cell HG.out.1]; rfl
      have B1 : ∀ o, Below wr.heap.size wr (wr.alloc o) := fun o => (Below.refl _ _).alloc (Nat.le_refl _) o
      have CV := (numV b w.heap.size 3 1 16384 p.a3 (wr.alloc (.cells #[.int .i64 5, .func (.func 97) #[] #[.pointer (some ⟨b, 0, none⟩), .pointer (some ⟨(b + 1), 0, none⟩), .pointer (some ⟨(b + 2), 0, none⟩)], .func (.func 98) #[] #[], .func (.func 99) #[] #[.pointer (some ⟨b, 0, none⟩)], .func (.func 100) #[] #[.pointer (some ⟨b, 0, none⟩)]] 105)) (((B1 _).cell (p := ⟨b, 0, none⟩) l0).trans h0) (((B1 _).cell (p := ⟨b + 1, 0, none⟩) l1).trans h1) (((B1 _).cell (p := ⟨b + 2, 0, none⟩) l2).trans h2) (((B1 _).cell (p := ⟨w.heap.size, 3, none⟩) (Array.getElem?_eq_some_iff.1 HG.out.1).1).trans cx)).mono (fun e w' h => And.intro h.1 (drewN_belowP h.2))
      obtain ⟨t, et⟩ : ∃ t : Bool, t = (btw 1 16384 p.a3) := ⟨_, rfl⟩
      rw [← et] at CV
      have HV : Hid _ := And.intro CV (And.intro et (B1 (.cells #[.int .i64 5, .func (.func 97) #[] #[.pointer (some ⟨b, 0, none⟩), .pointer (some ⟨(b + 1), 0, none⟩), .pointer (some ⟨(b + 2), 0, none⟩)], .func (.func 98) #[] #[], .func (.func 99) #[] #[.pointer (some ⟨b, 0, none⟩)], .func (.func 100) #[] #[.pointer (some ⟨b, 0, none⟩)]] 105)))
      clear CV et hc hz hE B1 h0 u0 l0 h1 u1 l1 h2 u2 l2 cx
      cases t
      · go_wp2_with (go_at_call 97; refine HV.out.1.mono ?_; rintro e w2 ⟨rfl, b2⟩)
        go_ret
        refine ⟨?_, (H1.out.2.1.trans (HN.out.2.mono H1.out.2.1.size)).trans ((HV.out.2.2.trans (b2.mono HV.out.2.2.size)).mono (Nat.le_trans H1.out.2.1.size HN.out.2.size))⟩
        rw [H0.out.2.2.2.2.1, pok_false p s 5 HV.out.2.1.symm]
        rfl
      · go_wp2_with (go_at_call 97; refine HV.out.1.mono ?_; rintro e w2 ⟨rfl, b2⟩)
        go_roundg (13 - (5 + 1))
        case measure => omega
        case rel =>
          refine ⟨6, by omega, rfl, by go_num, HN.out.2.trans ((HV.out.2.2.trans (b2.mono HV.out.2.2.size)).mono HN.out.2.size), fun j hj => ?_⟩
          by_cases hjk : j < 5
          · exact HN.out.1 j hjk
          · obtain rfl : j = 5 := by omega
            exact HV.out.2.1.symm
    · obtain ⟨cs, ⟨hz, hc⟩, hE⟩ := H1.out.1.e6
      obtain ⟨b, rfl, h0, u0, l0, h1, u1, l1, h2, u2, l2⟩ := NumE.below HN.out.2 hE
      have ht : T < w1.heap.size := H1.out.1.lt.2
      have t0 : wr.cell? ⟨T, 30, none⟩ = some (.int .i64 8) := (HN.out.2.cell (p := ⟨T, 30, none⟩) ht).trans (hc 0 (by decide))
      have t1 : wr.cell? ⟨T, 31, none⟩ = some (.func (.func 97) #[] #[.pointer (some ⟨b, 0, none⟩), .pointer (some ⟨(b + 1), 0, none⟩), .pointer (some ⟨(b + 2), 0, none⟩)]) := (HN.out.2.cell (p := ⟨T, 31, none⟩) ht).trans (hc 1 (by decide))
      have t2 : wr.cell? ⟨T, 32, none⟩ = some (.func (.func 98) #[] #[]) := (HN.out.2.cell (p := ⟨T, 32, none⟩) ht).trans (hc 2 (by decide))
      have t3 : wr.cell? ⟨T, 33, none⟩ = some (.func (.func 99) #[] #[.pointer (some ⟨b, 0, none⟩)]) := (HN.out.2.cell (p := ⟨T, 33, none⟩) ht).trans (hc 3 (by decide))
      have t4 : wr.cell? ⟨T, 34, none⟩ = some (.func (.func 100) #[] #[.pointer (some ⟨b, 0, none⟩)]) := (HN.out.2.cell (p := ⟨T, 34, none⟩) ht).trans (hc 4 (by decide))
      have cx : wr.cell? ⟨w.heap.size, 4, none⟩ = some (.int .i64 p.a4) := by rw [bk_cell HG.out.1]; rfl
      have B1 : ∀ o, Below wr.heap.size wr (wr.alloc o) := fun o => (Below.refl _ _).alloc (Nat.le_refl _) o
      have CV := (numV b w.heap.size 4 0 64 p.a4 (wr.alloc (.cells #[.int .i64 8, .func (.func 97) #[] #[.pointer (some ⟨b, 0, none⟩), .pointer (some ⟨(b + 1), 0, none⟩), .pointer (some ⟨(b + 2), 0, none⟩)], .func (.func 98) #[] #[], .func (.func 99) #[] #[.pointer (some ⟨b, 0, none⟩)], .func (.func 100) #[] #[.pointer (some ⟨b, 0, none⟩)]] 105)) (((B1 _).cell (p := ⟨b, 0, none⟩) l0).trans h0) (((B1 _).cell (p := ⟨b + 1, 0, none⟩) l1).trans h1) (((B1 _).cell (p := ⟨b + 2, 0, none⟩) l2).trans h2) (((B1 _).cell (p := ⟨w.heap.size, 4, none⟩) (Array.getElem?_eq_some_iff.1 HG.out.1).1).trans cx)).mono (fun e w' h => And.intro h.1 (drewN_belowP h.2))
      obtain ⟨t, et⟩ : ∃ t : Bool, t = (btw 0 64 p.a4) := ⟨_, rfl⟩
      rw [← et] at CV
      have HV : Hid _ := And.intro CV (And.intro et (B1 (.cells #[.int .i64 8, .func (.func 97) #[] #[.pointer (some ⟨b, 0, none⟩), .pointer (some ⟨(b + 1), 0, none⟩), .pointer (some ⟨(b + 2), 0, none⟩)], .func (.func 98) #[] #[], .func (.func 99) #[] #[.pointer (some ⟨b, 0, none⟩)], .func (.func 100) #[] #[.pointer (some ⟨b, 0, none⟩)]] 105)))
      clear CV et hc hz hE B1 h0 u0 l0 h1 u1 l1 h2 u2 l2 cx
      cases t
      · go_wp2_with (go_at_call 97; refine HV.out.1.mono ?_; rintro e w2 ⟨rfl, b2⟩)
        go_ret
        refine ⟨?_, (H1.out.2.1.trans (HN.out.2.mono H1.out.2.1.size)).trans ((HV.out.2.2.trans (b2.mono HV.out.2.2.size)).mono (Nat.le_trans H1.out.2.1.size HN.out.2.size))⟩
        rw [H0.out.2.2.2.2.1, pok_false p s 6 HV.out.2.1.symm]
        rfl
      · go_wp2_with (go_at_call 97; refine HV.out.1.mono ?_; rintro e w2 ⟨rfl, b2⟩)
        go_roundg (13 - (6 + 1))
        case measure => omega
        case rel =>
          refine ⟨7, by omega, rfl, by go_num, HN.out.2.trans ((HV.out.2.2.trans (b2.mono HV.out.2.2.size)).mono HN.out.2.size), fun j hj => ?_⟩
          by_cases hjk : j < 6
          · exact HN.out.1 j hjk
          · obtain rfl : j = 6 := by omega
            exact HV.out.2.1.symm
    · obtain ⟨cs, ⟨hz, hc⟩, hE⟩ := H1.out.1.e7
      obtain ⟨b, rfl, h0, u0, l0, h1, u1, l1, h2, u2, l2⟩ := NumE.below HN.out.2 hE
      have ht : T < w1.heap.size := H1.out.1.lt.2
      have t0 : wr.cell? ⟨T, 35, none⟩ = some (.int .i64 9) := (HN.out.2.cell (p := ⟨T, 35, none⟩) ht).trans (hc 0 (by decide))
      have t1 : wr.cell? ⟨T, 36, none⟩ = some (.func (.func 97) #[] #[.pointer (some ⟨b, 0, none⟩), .pointer (some ⟨(b + 1), 0, none⟩), .pointer (some ⟨(b + 2), 0, none⟩)]) := (HN.out.2.cell (p := ⟨T, 36, none⟩) ht).trans (hc 1 (by decide))
      have t2 : wr.cell? ⟨T, 37, none⟩ = some (.func (.func 98) #[] #[]) := (HN.out.2.cell (p := ⟨T, 37, none⟩) ht).trans (hc 2 (by decide))
      have t3 : wr.cell? ⟨T, 38, none⟩ = some (.func (.func 99) #[] #[.pointer (some ⟨b, 0, none⟩)]) := (HN.out.2.cell (p := ⟨T, 38, none⟩) ht).trans (hc 3 (by decide))
      have t4 : wr.cell? ⟨T, 39, none⟩ = some (.func (.func 100) #[] #[.pointer (some ⟨b, 0, none⟩)]) := (HN.out.2.cell (p := ⟨T, 39, none⟩) ht).trans (hc 4 (by decide))
      have cx : wr.cell? ⟨w.heap.size, 5, none⟩ = some (.int .i64 p.a5) := by rw [bk_cell HG.out.1]; rfl
      have B1 : ∀ o, Below wr.heap.size wr (wr.alloc o) := fun o => (Below.refl _ _).alloc (Nat.le_refl _) o
      have CV := (numV b w.heap.size 5 0 64 p.a5 (wr.alloc (.cells #[.int .i64 9, .func (.func 97) #[] #[.pointer (some ⟨b, 0, none⟩), .pointer (some ⟨(b + 1), 0, none⟩), .pointer (some ⟨(b + 2), 0, none⟩)], .func (.func 98) #[] #[], .func (.func 99) #[] #[.pointer (some ⟨b, 0, none⟩)], .func (.func 100) #[] #[.pointer (some ⟨b, 0, none⟩)]] 105)) (((B1 _).cell (p := ⟨b, 0, none⟩) l0).trans h0) (((B1 _).cell (p := ⟨b + 1, 0, none⟩) l1).trans h1) (((B1 _).cell (p := ⟨b + 2, 0, none⟩) l2).trans h2) (((B1 _).cell (p := ⟨w.heap.size, 5, none⟩) (Array.getElem?_eq_some_iff.1 HG.out.1).1).trans cx)).mono (fun e w' h => And.intro h.1 (drewN_belowP h.2))
      obtain ⟨t, et⟩ : ∃ t : Bool, t = (btw 0 64 p.a5) := ⟨_, rfl⟩
      rw [← et] at CV
      have HV : Hid _ := And.intro CV (And.intro et (B1 (.cells #[.int .i64 9, .func (.func 97) #[] #[.pointer (some ⟨b, 0, none⟩), .pointer (some ⟨(b + 1), 0, none⟩), .pointer (some ⟨(b + 2), 0, none⟩)], .func (.func 98) #[] #[], .func (.func 99) #[] #[.pointer (some ⟨b, 0, none⟩)], .func (.func 100) #[] #[.pointer (some ⟨b, 0, none⟩)]] 105)))
      clear CV et hc hz hE B1 h0 u0 l0 h1 u1 l1 h2 u2 l2 cx
      cases t
      · go_wp2_with (go_at_call 97; refine HV.out.1.mono ?_; rintro e w2 ⟨rfl, b2⟩)
        go_ret
        refine ⟨?_, (H1.out.2.1.trans (HN.out.2.mono H1.out.2.1.size)).trans ((HV.out.2.2.trans (b2.mono HV.out.2.2.size)).mono (Nat.le_trans H1.out.2.1.size HN.out.2.size))⟩
        rw [H0.out.2.2.2.2.1, pok_false p s 7 HV.out.2.1.symm]
        rfl
      · go_wp2_with (go_at_call 97; refine HV.out.1.mono ?_; rintro e w2 ⟨rfl, b2⟩)
        go_roundg (13 - (7 + 1))
        case measure => omega
        case rel =>
          refine ⟨8, by omega, rfl, by go_num, HN.out.2.trans ((HV.out.2.2.trans (b2.mono HV.out.2.2.size)).mono HN.out.2.size), fun j hj => ?_⟩
          by_cases hjk : j < 7
          · exact HN.out.1 j hjk
          · obtain rfl : j = 7 := by omega
            exact HV.out.2.1.symm
    · obtain ⟨cs, ⟨hz, hc⟩, hE⟩ := H1.out.1.e8
      obtain ⟨b, rfl, h0, u0, l0, h1, u1, l1, h2, u2, l2⟩ := NumE.below HN.out.2 hE
      have ht : T < w1.heap.size := H1.out.1.lt.2
      have t0 : wr.cell? ⟨T, 40, none⟩ = some (.int .i64 11) := (HN.out.2.cell (p := ⟨T, 40, none⟩) ht).trans (hc 0 (by decide))
      have t1 : wr.cell? ⟨T, 41, none⟩ = some (.func (.func 97) #[] #[.pointer (some ⟨b, 0, none⟩), .pointer (some ⟨(b + 1), 0, none⟩), .pointer (some ⟨(b + 2), 0, none⟩)]) := (HN.out.2.cell (p := ⟨T, 41, none⟩) ht).trans (hc 1 (by decide))
      have t2 : wr.cell? ⟨T, 42, none⟩ = some (.func (.func 98) #[] #[]) := (HN.out.2.cell (p := ⟨T, 42, none⟩) ht).trans (hc 2 (by decide))
      have t3 : wr.cell? ⟨T, 43, none⟩ = some (.func (.func 99) #[] #[.pointer (some ⟨b, 0, none⟩)]) := (HN.out.2.cell (p := ⟨T, 43, none⟩) ht).trans (hc 3 (by decide))
      have t4 : wr.cell? ⟨T, 44, none⟩ = some (.func (.func 100) #[] #[.pointer (some ⟨b, 0, none⟩)]) := (HN.out.2.cell (p := ⟨T, 44, none⟩) ht).trans (hc 4 (by decide))
      have cx : wr.cell? ⟨w.heap.size, 6, none⟩ = some (.int .i64 p.a6) := by rw [bk_cell HG.out.1]; rfl
      have B1 : ∀ o, Below wr.heap.size wr (wr.alloc o) := fun o => (Below.refl _ _).alloc (Nat.le_refl _) o
      have CV := (numV b w.heap.size 6 0 1000000 p.a6 (wr.alloc (.cells #[.int .i64 11, .func (.func 97) #[] #[.pointer (some ⟨b, 0, none⟩), .pointer (some ⟨(b + 1), 0, none⟩), .pointer (some ⟨(b + 2), 0, none⟩)], .func (.func 98) #[] #[], .func (.func 99) #[] #[.pointer (some ⟨b, 0, none⟩)], .func (.func 100) #[] #[.pointer (some ⟨b, 0, none⟩)]] 105)) (((B1 _).cell (p := ⟨b, 0, none⟩) l0).trans h0) (((B1 _).cell (p := ⟨b + 1, 0, none⟩) l1).trans h1) (((B1 _).cell (p := ⟨b + 2, 0, none⟩) l2).trans h2) (((B1 _).cell (p := ⟨w.heap.size, 6, none⟩) (Array.getElem?_eq_some_iff.1 HG.out.1).1).trans cx)).mono (fun e w' h => And.intro h.1 (drewN_belowP h.2))
      obtain ⟨t, et⟩ : ∃ t : Bool, t = (btw 0 1000000 p.a6) := ⟨_, rfl⟩
      rw [← et] at CV
      have HV : Hid _ := And.intro CV (And.intro et (B1 (.cells #[.int .i64 11, .func (.func 97) #[] #[.pointer (some ⟨b, 0, none⟩), .pointer (some ⟨(b + 1), 0, none⟩), .pointer (some ⟨(b + 2), 0, none⟩)], .func (.func 98) #[] #[], .func (.func 99) #[] #[.pointer (some ⟨b, 0, none⟩)], .func (.func 100) #[] #[.pointer (some ⟨b, 0, none⟩)]] 105)))
      clear CV et hc hz hE B1 h0 u0 l0 h1 u1 l1 h2 u2 l2 cx
      cases t
      · go_wp2_with (go_at_call 97; refine HV.out.1.mono ?_; rintro e w2 ⟨rfl, b2⟩)
        go_ret
        refine ⟨?_, (H1.out.2.1.trans (HN.out.2.mono H1.out.2.1.size)).trans ((HV.out.2.2.trans (b2.mono HV.out.2.2.size)).mono (Nat.le_trans H1.out.2.1.size HN.out.2.size))⟩
        rw [H0.out.2.2.2.2.1, pok_false p s 8 HV.out.2.1.symm]
        rfl
      · go_wp2_with (go_at_call 97; refine HV.out.1.mono ?_; rintro e w2 ⟨rfl, b2⟩)
        go_roundg (13 - (8 + 1))
        case measure => omega
        case rel =>
          refine ⟨9, by omega, rfl, by go_num, HN.out.2.trans ((HV.out.2.2.trans (b2.mono HV.out.2.2.size)).mono HN.out.2.size), fun j hj => ?_⟩
          by_cases hjk : j < 8
          · exact HN.out.1 j hjk
          · obtain rfl : j = 8 := by omega
            exact HV.out.2.1.symm
    · obtain ⟨cs, ⟨hz, hc⟩, hE⟩ := H1.out.1.e9
      obtain ⟨b, rfl, h0, u0, l0⟩ := FlgE.below HN.out.2 hE
      have ht : T < w1.heap.size := H1.out.1.lt.2
      have t0 : wr.cell? ⟨T, 45, none⟩ = some (.int .i64 12) := (HN.out.2.cell (p := ⟨T, 45, none⟩) ht).trans (hc 0 (by decide))
      have t1 : wr.cell? ⟨T, 46, none⟩ = some (.func (.func 98) #[] #[]) := (HN.out.2.cell (p := ⟨T, 46, none⟩) ht).trans (hc 1 (by decide))
      have t2 : wr.cell? ⟨T, 47, none⟩ = some (.func (.func 105) #[] #[.pointer (some ⟨b, 0, none⟩)]) := (HN.out.2.cell (p := ⟨T, 47, none⟩) ht).trans (hc 2 (by decide))
      have t3 : wr.cell? ⟨T, 48, none⟩ = some (.func (.func 106) #[] #[]) := (HN.out.2.cell (p := ⟨T, 48, none⟩) ht).trans (hc 3 (by decide))
      have t4 : wr.cell? ⟨T, 49, none⟩ = some (.func (.func 107) #[] #[.pointer (some ⟨b, 0, none⟩)]) := (HN.out.2.cell (p := ⟨T, 49, none⟩) ht).trans (hc 4 (by decide))
      have B1 : ∀ o, Below wr.heap.size wr (wr.alloc o) := fun o => (Below.refl _ _).alloc (Nat.le_refl _) o
      have CV := (alwaysC (wr.alloc (.cells #[.int .i64 12, .func (.func 98) #[] #[], .func (.func 105) #[] #[.pointer (some ⟨b, 0, none⟩)], .func (.func 106) #[] #[], .func (.func 107) #[] #[.pointer (some ⟨b, 0, none⟩)]] 105))).mono (fun e w' h => And.intro h.1 (eq_belowP h.2))
      have et : true = true := rfl
      have HV : Hid _ := And.intro CV (And.intro et (B1 (.cells #[.int .i64 12, .func (.func 98) #[] #[], .func (.func 105) #[] #[.pointer (some ⟨b, 0, none⟩)], .func (.func 106) #[] #[], .func (.func 107) #[] #[.pointer (some ⟨b, 0, none⟩)]] 105)))
      clear CV et hc hz hE B1 h0 u0 l0
      go_wp2_with (go_at_call 98; refine HV.out.1.mono ?_; rintro e w2 ⟨rfl, b2⟩)
      go_roundg (13 - (9 + 1))
      case measure => omega
      case rel =>
        refine ⟨10, by omega, rfl, by go_num, HN.out.2.trans ((HV.out.2.2.trans (b2.mono HV.out.2.2.size)).mono HN.out.2.size), fun j hj => ?_⟩
        by_cases hjk : j < 9
        · exact HN.out.1 j hjk
        · obtain rfl : j = 9 := by omega
          rfl
    · obtain ⟨cs, ⟨hz, hc⟩, hE⟩ := H1.out.1.e10
      obtain ⟨b, rfl, h0, u0, l0, h1, u1, l1, h2, u2, l2⟩ := NumE.below HN.out.2 hE
      have ht : T < w1.heap.size := H1.out.1.lt.2
      have t0 : wr.cell? ⟨T, 50, none⟩ = some (.int .i64 14) := (HN.out.2.cell (p := ⟨T, 50, none⟩) ht).trans (hc 0 (by decide))
      have t1 : wr.cell? ⟨T, 51, none⟩ = some (.func (.func 97) #[] #[.pointer (some ⟨b, 0, none⟩), .pointer (some ⟨(b + 1), 0, none⟩), .pointer (some ⟨(b + 2), 0, none⟩)]) := (HN.out.2.cell (p := ⟨T, 51, none⟩) ht).trans (hc 1 (by decide))
      have t2 : wr.cell? ⟨T, 52, none⟩ = some (.func (.func 98) #[] #[]) := (HN.out.2.cell (p := ⟨T, 52, none⟩) ht).trans (hc 2 (by decide))
      have t3 : wr.cell? ⟨T, 53, none⟩ = some (.func (.func 99) #[] #[.pointer (some ⟨b, 0, none⟩)]) := (HN.out.2.cell (p := ⟨T, 53, none⟩) ht).trans (hc 3 (by decide))
      have t4 : wr.cell? ⟨T, 54, none⟩ = some (.func (.func 100) #[] #[.pointer (some ⟨b, 0, none⟩)]) := (HN.out.2.cell (p := ⟨T, 54, none⟩) ht).trans (hc 4 (by decide))
      have cx : wr.cell? ⟨w.heap.size, 7, none⟩ = some (.int .i64 p.a7) := by rw [bk_cell HG.out.1]; rfl
      have B1 : ∀ o, Below wr.heap.size wr (wr.alloc o) := fun o => (Below.refl _ _).alloc (Nat.le_refl _) o
      have CV := (numV b w.heap.size 7 2 16 p.a7 (wr.alloc (.cells #[.int .i64 14, .func (.func 97) #[] #[.pointer (some ⟨b, 0, none⟩), .pointer (some ⟨(b + 1), 0, none⟩), .pointer (some ⟨(b + 2), 0, none⟩)], .func (.func 98) #[] #[], .func (.func 99) #[] #[.pointer (some ⟨b, 0, none⟩)], .func (.func 100) #[] #[.pointer (some ⟨b, 0, none⟩)]] 105)) (((B1 _).cell (p := ⟨b, 0, none⟩) l0).trans h0) (((B1 _).cell (p := ⟨b + 1, 0, none⟩) l1).trans h1) (((B1 _).cell (p := ⟨b + 2, 0, none⟩) l2).trans h2) (((B1 _).cell (p := ⟨w.heap.size, 7, none⟩) (Array.getElem?_eq_some_iff.1 HG.out.1).1).trans cx)).mono (fun e w' h => And.intro h.1 (drewN_belowP h.2))
      obtain ⟨t, et⟩ : ∃ t : Bool, t = (btw 2 16 p.a7) := ⟨_, rfl⟩
      rw [← et] at CV
      have HV : Hid _ := And.intro CV (And.intro et (B1 (.cells #[.int .i64 14, .func (.func 97) #[] #[.pointer (some ⟨b, 0, none⟩), .pointer (some ⟨(b + 1), 0, none⟩), .pointer (some ⟨(b + 2), 0, none⟩)], .func (.func 98) #[] #[], .func (.func 99) #[] #[.pointer (some ⟨b, 0, none⟩)], .func (.func 100) #[] #[.pointer (some ⟨b, 0, none⟩)]] 105)))
      clear CV et hc hz hE B1 h0 u0 l0 h1 u1 l1 h2 u2 l2 cx
      cases t
      · go_wp2_with (go_at_call 97; refine HV.out.1.mono ?_; rintro e w2 ⟨rfl, b2⟩)
        go_ret
        refine ⟨?_, (H1.out.2.1.trans (HN.out.2.mono H1.out.2.1.size)).trans ((HV.out.2.2.trans (b2.mono HV.out.2.2.size)).mono (Nat.le_trans H1.out.2.1.size HN.out.2.size))⟩
        rw [H0.out.2.2.2.2.1, pok_false p s 10 HV.out.2.1.symm]
        rfl
      · go_wp2_with (go_at_call 97; refine HV.out.1.mono ?_; rintro e w2 ⟨rfl, b2⟩)
        go_roundg (13 - (10 + 1))
        case measure => omega
        case rel =>
          refine ⟨11, by omega, rfl, by go_num, HN.out.2.trans ((HV.out.2.2.trans (b2.mono HV.out.2.2.size)).mono HN.out.2.size), fun j hj => ?_⟩
          by_cases hjk : j < 10
          · exact HN.out.1 j hjk
          · obtain rfl : j = 10 := by omega
            exact HV.out.2.1.symm
    · obtain ⟨cs, ⟨hz, hc⟩, hE⟩ := H1.out.1.e11
      obtain ⟨b, rfl, h0, u0, l0, h1, u1, l1⟩ := LstE.below HN.out.2 hE
      have ht : T < w1.heap.size := H1.out.1.lt.2
      have t0 : wr.cell? ⟨T, 55, none⟩ = some (.int .i64 15) := (HN.out.2.cell (p := ⟨T, 55, none⟩) ht).trans (hc 0 (by decide))
      have t1 : wr.cell? ⟨T, 56, none⟩ = some (.func (.func 110) #[] #[.pointer (some ⟨(b + 1), 0, none⟩), .pointer (some ⟨b, 0, none⟩)]) := (HN.out.2.cell (p := ⟨T, 56, none⟩) ht).trans (hc 1 (by decide))
      have t2 : wr.cell? ⟨T, 57, none⟩ = some (.func (.func 98) #[] #[]) := (HN.out.2.cell (p := ⟨T, 57, none⟩) ht).trans (hc 2 (by decide))
      have t3 : wr.cell? ⟨T, 58, none⟩ = some (.func (.func 111) #[] #[.pointer (some ⟨b, 0, none⟩)]) := (HN.out.2.cell (p := ⟨T, 58, none⟩) ht).trans (hc 3 (by decide))
      have t4 : wr.cell? ⟨T, 59, none⟩ = some (.func (.func 112) #[] #[.pointer (some ⟨b, 0, none⟩)]) := (HN.out.2.cell (p := ⟨T, 59, none⟩) ht).trans (hc 4 (by decide))
      have cx : wr.cell? ⟨w.heap.size, 12, none⟩ = some (.slice d4 p.f.length p4) := by rw [bk_cell HG.out.1]; rfl
      have B1 : ∀ o, Below wr.heap.size wr (wr.alloc o) := fun o => (Below.refl _ _).alloc (Nat.le_refl _) o
      have CV := fstV b w.heap.size 12 d4 p.f.length p4 (wr.alloc (.cells #[.int .i64 15, .func (.func 110) #[] #[.pointer (some ⟨(b + 1), 0, none⟩), .pointer (some ⟨b, 0, none⟩)], .func (.func 98) #[] #[], .func (.func 111) #[] #[.pointer (some ⟨b, 0, none⟩)], .func (.func 112) #[] #[.pointer (some ⟨b, 0, none⟩)]] 105)) H0.out.2.2.2.2.2.2.2.2 (((B1 _).cell (p := ⟨b, 0, none⟩) l0).trans h0) (((B1 _).cell (p := ⟨b + 1, 0, none⟩) l1).trans h1) (((B1 _).cell (p := ⟨w.heap.size, 12, none⟩) (Array.getElem?_eq_some_iff.1 HG.out.1).1).trans cx)
      obtain ⟨t, et⟩ : ∃ t : Bool, t = (decide (p.f.length ≤ 8)) := ⟨_, rfl⟩
      rw [← et] at CV
      have HV : Hid _ := And.intro CV (And.intro et (B1 (.cells #[.int .i64 15, .func (.func 110) #[] #[.pointer (some ⟨(b + 1), 0, none⟩), .pointer (some ⟨b, 0, none⟩)], .func (.func 98) #[] #[], .func (.func 111) #[] #[.pointer (some ⟨b, 0, none⟩)], .func (.func 112) #[] #[.pointer (some ⟨b, 0, none⟩)]] 105)))
      clear CV et hc hz hE B1 h0 u0 l0 h1 u1 l1 cx
      cases t
      · go_wp2_with (go_at_call 110; refine HV.out.1.mono ?_; rintro e w2 ⟨rfl, b2⟩)
        go_ret
        refine ⟨?_, (H1.out.2.1.trans (HN.out.2.mono H1.out.2.1.size)).trans ((HV.out.2.2.trans (b2.mono HV.out.2.2.size)).mono (Nat.le_trans H1.out.2.1.size HN.out.2.size))⟩
        rw [H0.out.2.2.2.2.1, pok_false p s 11 HV.out.2.1.symm]
        rfl
      · go_wp2_with (go_at_call 110; refine HV.out.1.mono ?_; rintro e w2 ⟨rfl, b2⟩)
        go_roundg (13 - (11 + 1))
        case measure => omega
        case rel =>
          refine ⟨12, by omega, rfl, by go_num, HN.out.2.trans ((HV.out.2.2.trans (b2.mono HV.out.2.2.size)).mono HN.out.2.size), fun j hj => ?_⟩
          by_cases hjk : j < 11
          · exact HN.out.1 j hjk
          · obtain rfl : j = 11 := by omega
            exact HV.out.2.1.symm
    · obtain ⟨cs, ⟨hz, hc⟩, hE⟩ := H1.out.1.e12
      obtain ⟨b, rfl, h0, u0, l0, h1, u1, l1, h2, u2, l2⟩ := NumE.below HN.out.2 hE
      have ht : T < w1.heap.size := H1.out.1.lt.2
      have t0 : wr.cell? ⟨T, 60, none⟩ = some (.int .i64 32) := (HN.out.2.cell (p := ⟨T, 60, none⟩) ht).trans (hc 0 (by decide))
      have t1 : wr.cell? ⟨T, 61, none⟩ = some (.func (.func 97) #[] #[.pointer (some ⟨b, 0, none⟩), .pointer (some ⟨(b + 1), 0, none⟩), .pointer (some ⟨(b + 2), 0, none⟩)]) := (HN.out.2.cell (p := ⟨T, 61, none⟩) ht).trans (hc 1 (by decide))
      have t2 : wr.cell? ⟨T, 62, none⟩ = some (.func (.func 98) #[] #[]) := (HN.out.2.cell (p := ⟨T, 62, none⟩) ht).trans (hc 2 (by decide))
      have t3 : wr.cell? ⟨T, 63, none⟩ = some (.func (.func 99) #[] #[.pointer (some ⟨b, 0, none⟩)]) := (HN.out.2.cell (p := ⟨T, 63, none⟩) ht).trans (hc 3 (by decide))
      have t4 : wr.cell? ⟨T, 64, none⟩ = some (.func (.func 100) #[] #[.pointer (some ⟨b, 0, none⟩)]) := (HN.out.2.cell (p := ⟨T, 64, none⟩) ht).trans (hc 4 (by decide))
      have cx : wr.cell? ⟨w.heap.size, 8, none⟩ = some (.int .i64 p.a8) := by rw [bk_cell HG.out.1]; rfl
      have B1 : ∀ o, Below wr.heap.size wr (wr.alloc o) := fun o => (Below.refl _ _).alloc (Nat.le_refl _) o
      have CV := (numV b w.heap.size 8 0 1500 p.a8 (wr.alloc (.cells #[.int .i64 32, .func (.func 97) #[] #[.pointer (some ⟨b, 0, none⟩), .pointer (some ⟨(b + 1), 0, none⟩), .pointer (some ⟨(b + 2), 0, none⟩)], .func (.func 98) #[] #[], .func (.func 99) #[] #[.pointer (some ⟨b, 0, none⟩)], .func (.func 100) #[] #[.pointer (some ⟨b, 0, none⟩)]] 105)) (((B1 _).cell (p := ⟨b, 0, none⟩) l0).trans h0) (((B1 _).cell (p := ⟨b + 1, 0, none⟩) l1).trans h1) (((B1 _).cell (p := ⟨b + 2, 0, none⟩) l2).trans h2) (((B1 _).cell (p := ⟨w.heap.size, 8, none⟩) (Array.getElem?_eq_some_iff.1 HG.out.1).1).trans cx)).mono (fun e w' h => And.intro h.1 (drewN_belowP h.2))
      obtain ⟨t, et⟩ : ∃ t : Bool, t = (btw 0 1500 p.a8) := ⟨_, rfl⟩
      rw [← et] at CV
      have HV : Hid _ := And.intro CV (And.intro et (B1 (.cells #[.int .i64 32, .func (.func 97) #[] #[.pointer (some ⟨b, 0, none⟩), .pointer (some ⟨(b + 1), 0, none⟩), .pointer (some ⟨(b + 2), 0, none⟩)], .func (.func 98) #[] #[], .func (.func 99) #[] #[.pointer (some ⟨b, 0, none⟩)], .func (.func 100) #[] #[.pointer (some ⟨b, 0, none⟩)]] 105)))
      clear CV et hc hz hE B1 h0 u0 l0 h1 u1 l1 h2 u2 l2 cx
      cases t
      · go_wp2_with (go_at_call 97; refine HV.out.1.mono ?_; rintro e w2 ⟨rfl, b2⟩)
        go_ret
        refine ⟨?_, (H1.out.2.1.trans (HN.out.2.mono H1.out.2.1.size)).trans ((HV.out.2.2.trans (b2.mono HV.out.2.2.size)).mono (Nat.le_trans H1.out.2.1.size HN.out.2.size))⟩
        rw [H0.out.2.2.2.2.1, pok_false p s 12 HV.out.2.1.symm]
        rfl
      · go_wp2_with (go_at_call 97; refine HV.out.1.mono ?_; rintro e w2 ⟨rfl, b2⟩)
        go_roundg (13 - (12 + 1))
        case measure => omega
        case rel =>
          refine ⟨13, by omega, rfl, by go_num, HN.out.2.trans ((HV.out.2.2.trans (b2.mono HV.out.2.2.size)).mono HN.out.2.size), fun j hj => ?_⟩
          by_cases hjk : j < 12
          · exact HN.out.1 j hjk
          · obtain rfl : j = 12 := by omega
            exact HV.out.2.1.symm
end Go.Proofs.YteggfkekgdlecaaGreatDoor

namespace Go.Proofs.YteggfkekgdlecaaGreatDoor
open Go.RowKit
set_option linter.unusedVariables false

theorem OutK.told {w2 wr Wa w3 w4 w5 : World} {vo r3 r5 : Value} {p : PP} {s : Bool} {k : Nat} {num : Int} {ys : List Int} (hK : OutK w2 wr vo p s k) (hk : k < 13) (ba : Below wr.heap.size wr Wa) (g3 : GrW Wa w3 vo r3) (b4 : Below w3.heap.size w3 w4) (g5 : GrW w4 w5 r3 r5)
    (o5 : w5.ownsRow w2.heap.size 5 1 r5 ((parA p s k ++ putv num) ++ (putv ys.length ++ ys)).length (((parA p s k ++ putv num) ++ (putv ys.length ++ ys)).map (Value.int .u8))) (he : (parL p s).getD k [] = entB num ys) : OutK w2 w5 r5 p s (k + 1) := by
  refine hK.step hk ?_ (GrW.after ba (GrW.trans g3 (GrW.after b4 g5)))
  rw [he]
  unfold entB
  rw [← List.append_assoc (parA p s k)]
  exact o5
theorem keep_cell {wr Wa w3 : World} {vo r3 : Value} {base n : Nat} {xs : List Value} {a off : Nat} (g : GrW Wa w3 vo r3) (ba : Below wr.heap.size wr Wa) (ho : wr.ownsRow base 5 1 vo n xs) (hb : a < base) (hl : a < wr.heap.size) : w3.cell? ⟨a, off, none⟩ = wr.cell? ⟨a, off, none⟩ := by
  have e1 : w3.heap[a]? = Wa.heap[a]? := g.chg.block a (Nat.lt_of_lt_of_le hl ba.size) (fun e => by have := (ho.lt a e).1; omega)
  have e2 : Wa.heap[a]? = wr.heap[a]? := ba.block a hl
  simp only [World.cell?, e1, e2]
set_option maxRecDepth 20000 in
theorem pbI_bad (v : Value) (p : PP) (s : Bool) (w : World) (hr : PPRow w v p) (hs : p.small 9223372036854775807) (hno : pok p s = false) :
    Calls Tryz.prog 54 #[v, .bool s] w fun e w' => ∃ r, e = .returned (.tuple #[r, .int .i64 11]) ∧ w'.ownsRow w.heap.size 5 1 r ([] : List Int).length (([] : List Int).map (Value.int .u8)) ∧ Below w.heap.size w w' := by
  obtain ⟨d2, d3, d4, p2, p3, p4, rfl, -, -, -⟩ := hr.parts
  have b0 := (Below.refl w.heap.size w).alloc (Nat.le_refl _) (.cells #[.int .i64 p.a0, .int .i64 p.a1, .int .i64 p.a2, .int .i64 p.a3, .int .i64 p.a4, .int .i64 p.a5, .int .i64 p.a6, .int .i64 p.a7, .int .i64 p.a8, .bool p.m, .slice d2 p.o.length p2, .slice d3 p.t.length p3, .slice d4 p.f.length p4] 35)
  have C := pokI _ p s _ (hr.below b0) hs
  rw [hno] at C
  have H0 : Hid _ := And.intro C b0
  clear C b0 hr hs hno
  go_enter Tryz.func54, Tryz.ntmps54
  go_wp2_with (go_at_call 72; refine H0.out.1.mono ?_; rintro e w1 ⟨rfl, b1⟩; have H1 : Hid _ := And.intro (H0.out.2.trans (b1.mono H0.out.2.size)) True.intro; clear b1)
  go_ret2
  exact ⟨_, rfl, World.ownsRow_nil _ _ _ _, H1.out.1⟩
set_option maxRecDepth 20000 in
set_option maxHeartbeats 16000000 in
theorem pbI_ok (v : Value) (p : PP) (s : Bool) (w : World) (ht : Tab w) (hr : PPRow w v p) (hs : p.small 9223372036854775807) (hyes : pok p s = true) :
    Calls Tryz.prog 54 #[v, .bool s] w fun e w' => ∃ r, e = .returned (.tuple #[r, .int .i64 0]) ∧ w'.ownsRow w.heap.size 5 1 r (parB p s).length ((parB p s).map (Value.int .u8)) ∧ Below w.heap.size w w' := by
  obtain ⟨d2, d3, d4, p2, p3, p4, rfl, r2, r3, r4⟩ := hr.parts
  obtain ⟨⟨z2, z3, z4⟩, q0, q1, q2, q3, q4, q5, q6, q7, q8⟩ := pok_parts p s hyes
  have b0 := (Below.refl w.heap.size w).alloc (Nat.le_refl _) (.cells #[.int .i64 p.a0, .int .i64 p.a1, .int .i64 p.a2, .int .i64 p.a3, .int .i64 p.a4, .int .i64 p.a5, .int .i64 p.a6, .int .i64 p.a7, .int .i64 p.a8, .bool p.m, .slice d2 p.o.length p2, .slice d3 p.t.length p3, .slice d4 p.f.length p4] 35)
  have g0 := heap_alloc_new w (.cells #[.int .i64 p.a0, .int .i64 p.a1, .int .i64 p.a2, .int .i64 p.a3, .int .i64 p.a4, .int .i64 p.a5, .int .i64 p.a6, .int .i64 p.a7, .int .i64 p.a8, .bool p.m, .slice d2 p.o.length p2, .slice d3 p.t.length p3, .slice d4 p.f.length p4] 35)
  have C := pokI _ p s _ (hr.below b0) hs
  rw [hyes] at C
  have LE := parA_le p s hyes
  have TT : ∀ u : World, Below w.heap.size w u → Tab u := fun u h => ht.below h ht.lt
  have H0 : Hid _ := And.intro C (And.intro b0 (And.intro g0 (And.intro r2 (And.intro r3 (And.intro r4 (And.intro LE (And.intro (And.intro z2 (And.intro z3 z4)) TT)))))))
  have HQ : Hid _ := And.intro q0 (And.intro q1 (And.intro q2 (And.intro q3 (And.intro q4 (And.intro q5 (And.intro q6 (And.intro q7 q8)))))))
  clear C b0 g0 hr hs hyes r2 r3 r4 LE z2 z3 z4 q0 q1 q2 q3 q4 q5 q6 q7 q8 ht TT
  go_enter Tryz.func54, Tryz.ntmps54
  go_wp2_with fail
  go_at_call 72
  refine H0.out.1.mono ?_
  rintro e w1 ⟨rfl, b1⟩
  have H1 : Hid _ := And.intro (parTableC w.heap.size s w1) (And.intro (H0.out.2.1.trans (b1.mono H0.out.2.1.size)) ((b1.block w.heap.size (by simp)).trans H0.out.2.2.1))
  have hz1 : w.heap.size < w1.heap.size := by have := b1.size; simp at this; omega
  clear b1
  go_wp2_with fail
  go_at_call 76
  refine H1.out.1.mono ?_
  rintro e w2 ⟨T, rfl, PT, b2⟩
  have H2 : Hid _ := And.intro PT (And.intro (H1.out.2.1.trans (b2.mono H1.out.2.1.size)) ((b2.block w.heap.size hz1).trans H1.out.2.2))
  have hz2 : w.heap.size < w2.heap.size := Nat.lt_of_lt_of_le hz1 b2.size
  clear PT b2
  go_wp2_with fail
  go_loopg [6, 16] 13 (fun q v i wr => ∃ k : Nat, k ≤ 13 ∧ q = 13 - k ∧ i = .int .i64 (k : Int) ∧ OutK w2 wr v p s k)
  case atStart => exact ⟨0, Nat.zero_le _, rfl, rfl, ⟨World.ownsRow_nil _ _ _ _, Below.refl _ _⟩⟩
  case round =>
    obtain ⟨k, hk, rfl, rfl, hK⟩ := hrel
    have HK : Hid _ := And.intro hK (And.intro (H2.out.2.1.trans (hK.bel.mono H2.out.2.1.size)) ((hK.bel.block w.heap.size hz2).trans H2.out.2.2))
    clear hK
    rcases (show k = 13 ∨ k = 0 ∨ k = 1 ∨ k = 2 ∨ k = 3 ∨ k = 4 ∨ k = 5 ∨ k = 6 ∨ k = 7 ∨ k = 8 ∨ k = 9 ∨ k = 10 ∨ k = 11 ∨ k = 12 by omega) with rfl | rfl | rfl | rfl | rfl | rfl | rfl | rfl | rfl | rfl | rfl | rfl | rfl | rfl
    · go_wp2
      go_ret2
      refine ⟨_, rfl, ?_, HK.out.2.1⟩
      have := owns_mono HK.out.1.own (base' := w.heap.size) H2.out.2.1.size
      rw [parA_13] at this
      exact this
    · obtain ⟨cs, ⟨hz, hc⟩, hE⟩ := H2.out.1.e0
      obtain ⟨b, c, rfl, g0, u0, m0, g1, u1, m1, g2, u2, m2⟩ := hE
      have h0 := (HK.out.1.bel.cell (p := ⟨b, 0, none⟩) m0).trans g0
      have l0 := Nat.lt_of_lt_of_le m0 HK.out.1.bel.size
      have h1 := (HK.out.1.bel.cell (p := ⟨b + 1, 0, none⟩) m1).trans g1
      have l1 := Nat.lt_of_lt_of_le m1 HK.out.1.bel.size
      have h2 := (HK.out.1.bel.cell (p := ⟨c, 0, none⟩) m2).trans g2
      have l2 := Nat.lt_of_lt_of_le m2 HK.out.1.bel.size
      have ht : T < w2.heap.size := H2.out.1.lt.2
      have t0 : wr.cell? ⟨T, 0, none⟩ = some (.int .i64 0) := (HK.out.1.bel.cell (p := ⟨T, 0, none⟩) ht).trans (hc 0 (by decide))
      have t1 : wr.cell? ⟨T, 1, none⟩ = some (.func (.func 110) #[] #[.pointer (some ⟨(b + 1), 0, none⟩), .pointer (some ⟨b, 0, none⟩)]) := (HK.out.1.bel.cell (p := ⟨T, 1, none⟩) ht).trans (hc 1 (by decide))
      have t2 : wr.cell? ⟨T, 2, none⟩ = some (.func (.func 96) #[] #[.pointer (some ⟨c, 0, none⟩)]) := (HK.out.1.bel.cell (p := ⟨T, 2, none⟩) ht).trans (hc 2 (by decide))
      have t3 : wr.cell? ⟨T, 3, none⟩ = some (.func (.func 111) #[] #[.pointer (some ⟨b, 0, none⟩)]) := (HK.out.1.bel.cell (p := ⟨T, 3, none⟩) ht).trans (hc 3 (by decide))
      have t4 : wr.cell? ⟨T, 4, none⟩ = some (.func (.func 112) #[] #[.pointer (some ⟨b, 0, none⟩)]) := (HK.out.1.bel.cell (p := ⟨T, 4, none⟩) ht).trans (hc 4 (by decide))
      have cx : wr.cell? ⟨w.heap.size, 10, none⟩ = some (.slice d2 p.o.length p2) := by rw [bk_cell HK.out.2.2]; rfl
      have lx : w.heap.size < wr.heap.size := (Array.getElem?_eq_some_iff.1 HK.out.2.2).1
      have B1 : ∀ o, Below wr.heap.size wr (wr.alloc o) := fun o => (Below.refl _ _).alloc (Nat.le_refl _) o
      have CT := orgTold c s (wr.alloc (.cells #[.int .i64 0, .func (.func 110) #[] #[.pointer (some ⟨(b + 1), 0, none⟩), .pointer (some ⟨b, 0, none⟩)], .func (.func 96) #[] #[.pointer (some ⟨c, 0, none⟩)], .func (.func 111) #[] #[.pointer (some ⟨b, 0, none⟩)], .func (.func 112) #[] #[.pointer (some ⟨b, 0, none⟩)]] 105)) (((B1 _).cell (p := ⟨c, 0, none⟩) l2).trans h2)
      obtain ⟨t, et⟩ : ∃ t : Bool, t = (s) := ⟨_, rfl⟩
      rw [← et] at CT
      have ET : Hid _ := And.intro et True.intro
      clear et
      have BA : Below wr.heap.size wr ((wr.alloc (.cells #[.int .i64 0, .func (.func 110) #[] #[.pointer (some ⟨(b + 1), 0, none⟩), .pointer (some ⟨b, 0, none⟩)], .func (.func 96) #[] #[.pointer (some ⟨c, 0, none⟩)], .func (.func 111) #[] #[.pointer (some ⟨b, 0, none⟩)], .func (.func 112) #[] #[.pointer (some ⟨b, 0, none⟩)]] 105)).drew.alloc (.cells #[.int .i64 0] 3)) := (below_drewN (B1 _) 1).alloc (by show wr.heap.size ≤ (wr.alloc _).heap.size; simp) _
      have C3 := putN1 w2.heap.size u6 (parA p s 0) 0 (wr.heap.size + 1) ((wr.alloc (.cells #[.int .i64 0, .func (.func 110) #[] #[.pointer (some ⟨(b + 1), 0, none⟩), .pointer (some ⟨b, 0, none⟩)], .func (.func 96) #[] #[.pointer (some ⟨c, 0, none⟩)], .func (.func 111) #[] #[.pointer (some ⟨b, 0, none⟩)], .func (.func 112) #[] #[.pointer (some ⟨b, 0, none⟩)]] 105)).drew.alloc (.cells #[.int .i64 0] 3)) (H0.out.2.2.2.2.2.2.2.2 _ (HK.out.2.1.trans (BA.mono HK.out.2.1.size))) (owns_below HK.out.1.own BA) (Nat.le_trans HK.out.1.bel.size BA.size) (by have := H0.out.2.2.2.2.2.2.1 0 (by decide); omega) (by decide) (by decide) (cell_new (t := 3) (newAt1 _ _ _ (by show (wr.alloc _).heap.size = _; simp)))
      have gB : ((wr.alloc (.cells #[.int .i64 0, .func (.func 110) #[] #[.pointer (some ⟨(b + 1), 0, none⟩), .pointer (some ⟨b, 0, none⟩)], .func (.func 96) #[] #[.pointer (some ⟨c, 0, none⟩)], .func (.func 111) #[] #[.pointer (some ⟨b, 0, none⟩)], .func (.func 112) #[] #[.pointer (some ⟨b, 0, none⟩)]] 105)).drew.alloc (.cells #[.int .i64 0] 3)).heap[wr.heap.size]? = some (.cells #[.int .i64 0, .func (.func 110) #[] #[.pointer (some ⟨(b + 1), 0, none⟩), .pointer (some ⟨b, 0, none⟩)], .func (.func 96) #[] #[.pointer (some ⟨c, 0, none⟩)], .func (.func 111) #[] #[.pointer (some ⟨b, 0, none⟩)], .func (.func 112) #[] #[.pointer (some ⟨b, 0, none⟩)]] 105) := (Below.heap_alloc _ _ _ (by show wr.heap.size < (wr.alloc _).heap.size; simp)).trans (heap_alloc_new wr (.cells #[.int .i64 0, .func (.func 110) #[] #[.pointer (some ⟨(b + 1), 0, none⟩), .pointer (some ⟨b, 0, none⟩)], .func (.func 96) #[] #[.pointer (some ⟨c, 0, none⟩)], .func (.func 111) #[] #[.pointer (some ⟨b, 0, none⟩)], .func (.func 112) #[] #[.pointer (some ⟨b, 0, none⟩)]] 105))
      have HV : Hid _ := And.intro CT (And.intro C3 (And.intro BA (And.intro gB (And.intro h0 (And.intro l0 (And.intro m0 (And.intro cx lx)))))))
      clear CT C3 BA gB hc hz B1 cx h0 u0 l0 g0 m0 h1 u1 l1 g1 m1 h2 u2 l2 g2 m2
      cases t
      · skip
        go_wp2_with (go_at_call 96; refine HV.out.1.mono ?_; rintro e w3 ⟨rfl, hw⟩; subst w3)
        have K1 := HK.out.1.skip (k := 0) (by decide) (by show (if s = true then entB 0 p.o else []) = []; rw [if_neg (by rw [← ET.out.1]; decide)])
        go_roundg (13 - (0 + 1))
        case measure => omega
        case rel => exact ⟨1, by omega, rfl, by go_num, ⟨owns_below K1.own ((Below.refl _ _).alloc (Nat.le_refl _) _), K1.bel.alloc K1.bel.size _⟩⟩
      · skip
        go_wp2_with (go_at_call 96; refine HV.out.1.mono ?_; rintro e w3 ⟨rfl, hw⟩; subst w3)
        have tok1 : True := trivial
        have tok2 : True := trivial
        have cA0 : (wr.alloc (.cells #[.int .i64 0, .func (.func 110) #[] #[.pointer (some ⟨(b + 1), 0, none⟩), .pointer (some ⟨b, 0, none⟩)], .func (.func 96) #[] #[.pointer (some ⟨c, 0, none⟩)], .func (.func 111) #[] #[.pointer (some ⟨b, 0, none⟩)], .func (.func 112) #[] #[.pointer (some ⟨b, 0, none⟩)]] 105)).cell? ⟨wr.heap.size, 0, none⟩ = some (.int .i64 0) := by rw [bk_cell (heap_alloc_new wr (.cells #[.int .i64 0, .func (.func 110) #[] #[.pointer (some ⟨(b + 1), 0, none⟩), .pointer (some ⟨b, 0, none⟩)], .func (.func 96) #[] #[.pointer (some ⟨c, 0, none⟩)], .func (.func 111) #[] #[.pointer (some ⟨b, 0, none⟩)], .func (.func 112) #[] #[.pointer (some ⟨b, 0, none⟩)]] 105))]; rfl
        have cA3 : (wr.alloc (.cells #[.int .i64 0, .func (.func 110) #[] #[.pointer (some ⟨(b + 1), 0, none⟩), .pointer (some ⟨b, 0, none⟩)], .func (.func 96) #[] #[.pointer (some ⟨c, 0, none⟩)], .func (.func 111) #[] #[.pointer (some ⟨b, 0, none⟩)], .func (.func 112) #[] #[.pointer (some ⟨b, 0, none⟩)]] 105)).cell? ⟨wr.heap.size, 3, none⟩ = some (.func (.func 111) #[] #[.pointer (some ⟨b, 0, none⟩)]) := by rw [bk_cell (heap_alloc_new wr (.cells #[.int .i64 0, .func (.func 110) #[] #[.pointer (some ⟨(b + 1), 0, none⟩), .pointer (some ⟨b, 0, none⟩)], .func (.func 96) #[] #[.pointer (some ⟨c, 0, none⟩)], .func (.func 111) #[] #[.pointer (some ⟨b, 0, none⟩)], .func (.func 112) #[] #[.pointer (some ⟨b, 0, none⟩)]] 105))]; rfl
        go_upto_region 8 with fail
        go_region_held3 (fun w' => w'.cell? ⟨wr.heap.size, 0, none⟩ = some (.int .i64 0) ∧ w'.cell? ⟨wr.heap.size, 3, none⟩ = some (.func (.func 111) #[] #[.pointer (some ⟨b, 0, none⟩)])) (go_keep)
          (first
          | (go_at_call 75; have _t := tok1; refine HV.out.2.1.mono ?_; rintro e w3 ⟨r3, rfl, o3, G3⟩; have k3 := G3.chg.block wr.heap.size (Array.getElem?_eq_some_iff.1 HV.out.2.2.2.1).1 (fun e => by have := (HK.out.1.own.lt _ e).2; omega); have c30 : w3.cell? ⟨wr.heap.size, 0, none⟩ = some (.int .i64 0) := (by rw [bk_cell (k3.trans HV.out.2.2.2.1)]; rfl); have c33 : w3.cell? ⟨wr.heap.size, 3, none⟩ = some (.func (.func 111) #[] #[.pointer (some ⟨b, 0, none⟩)]) := (by rw [bk_cell (k3.trans HV.out.2.2.2.1)]; rfl); have H3 : Hid _ := And.intro o3 (And.intro G3 (And.intro (k3.trans HV.out.2.2.2.1) ((HK.out.1.bel.trans (HV.out.2.2.1.mono HK.out.1.bel.size)).trans (G3.below (owns_below HK.out.1.own HV.out.2.2.1) (Nat.le_trans HK.out.1.bel.size HV.out.2.2.1.size))))); clear o3 G3 k3 tok1)
          | (go_at_call 111; have _t := tok2; have kb : w3.cell? ⟨b, 0, none⟩ = wr.cell? ⟨b, 0, none⟩ := keep_cell H3.out.2.1 HV.out.2.2.1 HK.out.1.own HV.out.2.2.2.2.2.2.1 HV.out.2.2.2.2.2.1; have kg : w3.cell? ⟨w.heap.size, 10, none⟩ = wr.cell? ⟨w.heap.size, 10, none⟩ := keep_cell H3.out.2.1 HV.out.2.2.1 HK.out.1.own (by omega) lx; refine (lstVal b w.heap.size 10 d2 p.o.length p2 w3 (kb.trans HV.out.2.2.2.2.1) (kg.trans HV.out.2.2.2.2.2.2.2.1)).mono ?_; rintro e w4 ⟨rfl, hw4⟩; subst w4; clear kb kg tok2)
          | (go_at_call 53; have al4 : Below w3.heap.size w3 (w3.alloc (.cells #[.slice d2 p.o.length p2] 22)) := (Below.refl _ _).alloc (Nat.le_refl _) _; have B34 : Below w3.heap.size w3 (w3.alloc (.cells #[.slice d2 p.o.length p2] 22)) := (Below.refl w3.heap.size w3).trans (al4.mono (Below.refl w3.heap.size w3).size); refine (putC1 w2.heap.size r3 (.slice d2 p.o.length p2) (parA p s 0 ++ putv 0) (p.o) w3.heap.size (w3.alloc (.cells #[.slice d2 p.o.length p2] 22)) (H0.out.2.2.2.2.2.2.2.2 _ ((H2.out.2.1.trans (H3.out.2.2.2.mono H2.out.2.1.size)).trans (B34.mono (Nat.le_trans H2.out.2.1.size H3.out.2.2.2.size)))) (owns_below H3.out.1 B34) (((H0.out.2.2.2.1.below H2.out.2.1).below H3.out.2.2.2).below al4) (fun hx k h h2 => by have := own_of_row H0.out.2.2.2.1 hx h; have := (H3.out.1.lt k h2).1; omega) (Nat.le_trans H3.out.2.2.2.size B34.size) (by have := H0.out.2.2.2.2.2.2.1 0 (by decide); have := putv_le 0 (by decide) (by decide); rw [List.length_append]; omega) (by have := H0.out.2.2.2.2.2.2.2.1.1; omega) (laid1 _ _ _)).mono ?_; rintro e w5 ⟨r5, rfl, o5, G5⟩; have k5 := (G5.chg.block wr.heap.size (Nat.lt_of_lt_of_le (Array.getElem?_eq_some_iff.1 H3.out.2.2.1).1 B34.size) (fun e => (H3.out.2.1.loc _ e).elim (fun q => by have := (HK.out.1.own.lt _ q).2; omega) (fun q => by have := (Array.getElem?_eq_some_iff.1 HV.out.2.2.2.1).1; omega))).trans ((B34.block wr.heap.size (Array.getElem?_eq_some_iff.1 H3.out.2.2.1).1).trans H3.out.2.2.1); have c50 : w5.cell? ⟨wr.heap.size, 0, none⟩ = some (.int .i64 0) := (by rw [bk_cell k5]; rfl); have c53 : w5.cell? ⟨wr.heap.size, 3, none⟩ = some (.func (.func 111) #[] #[.pointer (some ⟨b, 0, none⟩)]) := (by rw [bk_cell k5]; rfl); clear k5; have H5 : Hid _ := And.intro o5 (And.intro G5 B34); clear o5 G5 al4 B34))
        all_goals
          have K1 : Hid (OutK w2 w5 r5 p s 1) := HK.out.1.told (k := 0) (num := 0) (ys := p.o) (by decide) HV.out.2.2.1 H3.out.2.1 H5.out.2.2 H5.out.2.1 H5.out.1 (by show (if s = true then entB 0 p.o else []) = _; rw [if_pos (by rw [← ET.out.1])])
          go_wp2_with fail
          go_roundg (13 - (0 + 1))
          case measure => omega
          case rel => exact ⟨1, by omega, rfl, by go_num, K1.out⟩
    · obtain ⟨cs, ⟨hz, hc⟩, hE⟩ := H2.out.1.e1
      obtain ⟨b, rfl, g0, u0, m0, g1, u1, m1, g2, u2, m2⟩ := hE
      have h0 := (HK.out.1.bel.cell (p := ⟨b, 0, none⟩) m0).trans g0
      have l0 := Nat.lt_of_lt_of_le m0 HK.out.1.bel.size
      have h1 := (HK.out.1.bel.cell (p := ⟨b + 1, 0, none⟩) m1).trans g1
      have l1 := Nat.lt_of_lt_of_le m1 HK.out.1.bel.size
      have h2 := (HK.out.1.bel.cell (p := ⟨b + 2, 0, none⟩) m2).trans g2
      have l2 := Nat.lt_of_lt_of_le m2 HK.out.1.bel.size
      have ht : T < w2.heap.size := H2.out.1.lt.2
      have t0 : wr.cell? ⟨T, 5, none⟩ = some (.int .i64 1) := (HK.out.1.bel.cell (p := ⟨T, 5, none⟩) ht).trans (hc 0 (by decide))
      have t1 : wr.cell? ⟨T, 6, none⟩ = some (.func (.func 97) #[] #[.pointer (some ⟨b, 0, none⟩), .pointer (some ⟨(b + 1), 0, none⟩), .pointer (some ⟨(b + 2), 0, none⟩)]) := (HK.out.1.bel.cell (p := ⟨T, 6, none⟩) ht).trans (hc 1 (by decide))
      have t2 : wr.cell? ⟨T, 7, none⟩ = some (.func (.func 98) #[] #[]) := (HK.out.1.bel.cell (p := ⟨T, 7, none⟩) ht).trans (hc 2 (by decide))
      have t3 : wr.cell? ⟨T, 8, none⟩ = some (.func (.func 99) #[] #[.pointer (some ⟨b, 0, none⟩)]) := (HK.out.1.bel.cell (p := ⟨T, 8, none⟩) ht).trans (hc 3 (by decide))
      have t4 : wr.cell? ⟨T, 9, none⟩ = some (.func (.func 100) #[] #[.pointer (some ⟨b, 0, none⟩)]) := (HK.out.1.bel.cell (p := ⟨T, 9, none⟩) ht).trans (hc 4 (by decide))
      have cx : wr.cell? ⟨w.heap.size, 0, none⟩ = some (.int .i64 p.a0) := by rw [bk_cell HK.out.2.2]; rfl
      have lx : w.heap.size < wr.heap.size := (Array.getElem?_eq_some_iff.1 HK.out.2.2).1
      have B1 : ∀ o, Below wr.heap.size wr (wr.alloc o) := fun o => (Below.refl _ _).alloc (Nat.le_refl _) o
      have CT := alwaysC (wr.alloc (.cells #[.int .i64 1, .func (.func 97) #[] #[.pointer (some ⟨b, 0, none⟩), .pointer (some ⟨(b + 1), 0, none⟩), .pointer (some ⟨(b + 2), 0, none⟩)], .func (.func 98) #[] #[], .func (.func 99) #[] #[.pointer (some ⟨b, 0, none⟩)], .func (.func 100) #[] #[.pointer (some ⟨b, 0, none⟩)]] 105))
      have BA : Below wr.heap.size wr ((wr.alloc (.cells #[.int .i64 1, .func (.func 97) #[] #[.pointer (some ⟨b, 0, none⟩), .pointer (some ⟨(b + 1), 0, none⟩), .pointer (some ⟨(b + 2), 0, none⟩)], .func (.func 98) #[] #[], .func (.func 99) #[] #[.pointer (some ⟨b, 0, none⟩)], .func (.func 100) #[] #[.pointer (some ⟨b, 0, none⟩)]] 105)).drew.alloc (.cells #[.int .i64 1] 3)) := (below_drewN (B1 _) 1).alloc (by show wr.heap.size ≤ (wr.alloc _).heap.size; simp) _
      have C3 := putN1 w2.heap.size u6 (parA p s 1) 1 (wr.heap.size + 1) ((wr.alloc (.cells #[.int .i64 1, .func (.func 97) #[] #[.pointer (some ⟨b, 0, none⟩), .pointer (some ⟨(b + 1), 0, none⟩), .pointer (some ⟨(b + 2), 0, none⟩)], .func (.func 98) #[] #[], .func (.func 99) #[] #[.pointer (some ⟨b, 0, none⟩)], .func (.func 100) #[] #[.pointer (some ⟨b, 0, none⟩)]] 105)).drew.alloc (.cells #[.int .i64 1] 3)) (H0.out.2.2.2.2.2.2.2.2 _ (HK.out.2.1.trans (BA.mono HK.out.2.1.size))) (owns_below HK.out.1.own BA) (Nat.le_trans HK.out.1.bel.size BA.size) (by have := H0.out.2.2.2.2.2.2.1 1 (by decide); omega) (by decide) (by decide) (cell_new (t := 3) (newAt1 _ _ _ (by show (wr.alloc _).heap.size = _; simp)))
      have gB : ((wr.alloc (.cells #[.int .i64 1, .func (.func 97) #[] #[.pointer (some ⟨b, 0, none⟩), .pointer (some ⟨(b + 1), 0, none⟩), .pointer (some ⟨(b + 2), 0, none⟩)], .func (.func 98) #[] #[], .func (.func 99) #[] #[.pointer (some ⟨b, 0, none⟩)], .func (.func 100) #[] #[.pointer (some ⟨b, 0, none⟩)]] 105)).drew.alloc (.cells #[.int .i64 1] 3)).heap[wr.heap.size]? = some (.cells #[.int .i64 1, .func (.func 97) #[] #[.pointer (some ⟨b, 0, none⟩), .pointer (some ⟨(b + 1), 0, none⟩), .pointer (some ⟨(b + 2), 0, none⟩)], .func (.func 98) #[] #[], .func (.func 99) #[] #[.pointer (some ⟨b, 0, none⟩)], .func (.func 100) #[] #[.pointer (some ⟨b, 0, none⟩)]] 105) := (Below.heap_alloc _ _ _ (by show wr.heap.size < (wr.alloc _).heap.size; simp)).trans (heap_alloc_new wr (.cells #[.int .i64 1, .func (.func 97) #[] #[.pointer (some ⟨b, 0, none⟩), .pointer (some ⟨(b + 1), 0, none⟩), .pointer (some ⟨(b + 2), 0, none⟩)], .func (.func 98) #[] #[], .func (.func 99) #[] #[.pointer (some ⟨b, 0, none⟩)], .func (.func 100) #[] #[.pointer (some ⟨b, 0, none⟩)]] 105))
      have HV : Hid _ := And.intro CT (And.intro C3 (And.intro BA (And.intro gB (And.intro h0 (And.intro l0 (And.intro m0 (And.intro cx lx)))))))
      clear CT C3 BA gB hc hz B1 cx h0 u0 l0 g0 m0 h1 u1 l1 g1 m1 h2 u2 l2 g2 m2
      go_wp2_with (go_at_call 98; refine HV.out.1.mono ?_; rintro e w3 ⟨rfl, hw⟩; subst w3)
      have tok1 : True := trivial
      have tok2 : True := trivial
      have cA0 : (wr.alloc (.cells #[.int .i64 1, .func (.func 97) #[] #[.pointer (some ⟨b, 0, none⟩), .pointer (some ⟨(b + 1), 0, none⟩), .pointer (some ⟨(b + 2), 0, none⟩)], .func (.func 98) #[] #[], .func (.func 99) #[] #[.pointer (some ⟨b, 0, none⟩)], .func (.func 100) #[] #[.pointer (some ⟨b, 0, none⟩)]] 105)).cell? ⟨wr.heap.size, 0, none⟩ = some (.int .i64 1) := by rw [bk_cell (heap_alloc_new wr (.cells #[.int .i64 1, .func (.func 97) #[] #[.pointer (some ⟨b, 0, none⟩), .pointer (some ⟨(b + 1), 0, none⟩), .pointer (some ⟨(b + 2), 0, none⟩)], .func (.func 98) #[] #[], .func (.func 99) #[] #[.pointer (some ⟨b, 0, none⟩)], .func (.func 100) #[] #[.pointer (some ⟨b, 0, none⟩)]] 105))]; rfl
      have cA3 : (wr.alloc (.cells #[.int .i64 1, .func (.func 97) #[] #[.pointer (some ⟨b, 0, none⟩), .pointer (some ⟨(b + 1), 0, none⟩), .pointer (some ⟨(b + 2), 0, none⟩)], .func (.func 98) #[] #[], .func (.func 99) #[] #[.pointer (some ⟨b, 0, none⟩)], .func (.func 100) #[] #[.pointer (some ⟨b, 0, none⟩)]] 105)).cell? ⟨wr.heap.size, 3, none⟩ = some (.func (.func 99) #[] #[.pointer (some ⟨b, 0, none⟩)]) := by rw [bk_cell (heap_alloc_new wr (.cells #[.int .i64 1, .func (.func 97) #[] #[.pointer (some ⟨b, 0, none⟩), .pointer (some ⟨(b + 1), 0, none⟩), .pointer (some ⟨(b + 2), 0, none⟩)], .func (.func 98) #[] #[], .func (.func 99) #[] #[.pointer (some ⟨b, 0, none⟩)], .func (.func 100) #[] #[.pointer (some ⟨b, 0, none⟩)]] 105))]; rfl
      go_upto_region 8 with fail
      go_region_held3 (fun w' => w'.cell? ⟨wr.heap.size, 0, none⟩ = some (.int .i64 1) ∧ w'.cell? ⟨wr.heap.size, 3, none⟩ = some (.func (.func 99) #[] #[.pointer (some ⟨b, 0, none⟩)])) (go_keep)
        (first
        | (go_at_call 75; have _t := tok1; refine HV.out.2.1.mono ?_; rintro e w3 ⟨r3, rfl, o3, G3⟩; have k3 := G3.chg.block wr.heap.size (Array.getElem?_eq_some_iff.1 HV.out.2.2.2.1).1 (fun e => by have := (HK.out.1.own.lt _ e).2; omega); have c30 : w3.cell? ⟨wr.heap.size, 0, none⟩ = some (.int .i64 1) := (by rw [bk_cell (k3.trans HV.out.2.2.2.1)]; rfl); have c33 : w3.cell? ⟨wr.heap.size, 3, none⟩ = some (.func (.func 99) #[] #[.pointer (some ⟨b, 0, none⟩)]) := (by rw [bk_cell (k3.trans HV.out.2.2.2.1)]; rfl); have H3 : Hid _ := And.intro o3 (And.intro G3 (And.intro (k3.trans HV.out.2.2.2.1) ((HK.out.1.bel.trans (HV.out.2.2.1.mono HK.out.1.bel.size)).trans (G3.below (owns_below HK.out.1.own HV.out.2.2.1) (Nat.le_trans HK.out.1.bel.size HV.out.2.2.1.size))))); clear o3 G3 k3 tok1)
        | (go_at_call 99; have _t := tok2; have kb : w3.cell? ⟨b, 0, none⟩ = wr.cell? ⟨b, 0, none⟩ := keep_cell H3.out.2.1 HV.out.2.2.1 HK.out.1.own HV.out.2.2.2.2.2.2.1 HV.out.2.2.2.2.2.1; have kg : w3.cell? ⟨w.heap.size, 0, none⟩ = wr.cell? ⟨w.heap.size, 0, none⟩ := keep_cell H3.out.2.1 HV.out.2.2.1 HK.out.1.own (by omega) lx; refine (numVal b w.heap.size 0 p.a0 w3 (H0.out.2.2.2.2.2.2.2.2 _ (H2.out.2.1.trans (H3.out.2.2.2.mono H2.out.2.1.size))) (by have := HQ.out.1; omega) (by have := HQ.out.1; omega) (kb.trans HV.out.2.2.2.2.1) (kg.trans HV.out.2.2.2.2.2.2.2.1)).mono ?_; rintro e w4 ⟨r4, rfl, o4, b4⟩; obtain ⟨a4, q4, er⟩ := (row_of_owns o4).form; subst er; have c40 : w4.cell? ⟨wr.heap.size, 0, none⟩ = some (.int .i64 1) := (by rw [bk_cell ((b4.block wr.heap.size (Array.getElem?_eq_some_iff.1 H3.out.2.2.1).1).trans H3.out.2.2.1)]; rfl); have c43 : w4.cell? ⟨wr.heap.size, 3, none⟩ = some (.func (.func 99) #[] #[.pointer (some ⟨b, 0, none⟩)]) := (by rw [bk_cell ((b4.block wr.heap.size (Array.getElem?_eq_some_iff.1 H3.out.2.2.1).1).trans H3.out.2.2.1)]; rfl); have H4 : Hid _ := And.intro b4 (And.intro (row_of_owns o4) (fun (hx : (putv p.a0) ≠ []) k (e : Value.ownBlock _ = some k) => (o4.lt k e).1)); clear o4 b4 kb kg tok2)
        | (go_at_call 53; have al4 : Below w4.heap.size w4 (w4.alloc (.cells #[.slice a4 (putv p.a0).length q4] 22)) := (Below.refl _ _).alloc (Nat.le_refl _) _; have B34 : Below w3.heap.size w3 (w4.alloc (.cells #[.slice a4 (putv p.a0).length q4] 22)) := H4.out.1.trans (al4.mono H4.out.1.size); refine (putC1 w2.heap.size r3 (.slice a4 (putv p.a0).length q4) (parA p s 1 ++ putv 1) (putv p.a0) w4.heap.size (w4.alloc (.cells #[.slice a4 (putv p.a0).length q4] 22)) (H0.out.2.2.2.2.2.2.2.2 _ ((H2.out.2.1.trans (H3.out.2.2.2.mono H2.out.2.1.size)).trans (B34.mono (Nat.le_trans H2.out.2.1.size H3.out.2.2.2.size)))) (owns_below H3.out.1 B34) (H4.out.2.1.below al4) (fun hx k h h2 => by have := H4.out.2.2 hx k h; have := (H3.out.1.lt k h2).2; omega) (Nat.le_trans H3.out.2.2.2.size B34.size) (by have := H0.out.2.2.2.2.2.2.1 1 (by decide); have := putv_le 1 (by decide) (by decide); rw [List.length_append]; omega) (by have := putv_le p.a0 (by have := HQ.out.1; omega) (by have := HQ.out.1; omega); omega) (laid1 _ _ _)).mono ?_; rintro e w5 ⟨r5, rfl, o5, G5⟩; have k5 := (G5.chg.block wr.heap.size (Nat.lt_of_lt_of_le (Array.getElem?_eq_some_iff.1 H3.out.2.2.1).1 B34.size) (fun e => (H3.out.2.1.loc _ e).elim (fun q => by have := (HK.out.1.own.lt _ q).2; omega) (fun q => by have := (Array.getElem?_eq_some_iff.1 HV.out.2.2.2.1).1; omega))).trans ((B34.block wr.heap.size (Array.getElem?_eq_some_iff.1 H3.out.2.2.1).1).trans H3.out.2.2.1); have c50 : w5.cell? ⟨wr.heap.size, 0, none⟩ = some (.int .i64 1) := (by rw [bk_cell k5]; rfl); have c53 : w5.cell? ⟨wr.heap.size, 3, none⟩ = some (.func (.func 99) #[] #[.pointer (some ⟨b, 0, none⟩)]) := (by rw [bk_cell k5]; rfl); clear k5; have H5 : Hid _ := And.intro o5 (And.intro G5 B34); clear o5 G5 al4 B34))
      all_goals
        have K1 : Hid (OutK w2 w5 r5 p s 2) := HK.out.1.told (k := 1) (num := 1) (ys := putv p.a0) (by decide) HV.out.2.2.1 H3.out.2.1 H5.out.2.2 H5.out.2.1 H5.out.1 (rfl)
        go_wp2_with fail
        go_roundg (13 - (1 + 1))
        case measure => omega
        case rel => exact ⟨2, by omega, rfl, by go_num, K1.out⟩
    · obtain ⟨cs, ⟨hz, hc⟩, hE⟩ := H2.out.1.e2
      obtain ⟨b, c, d, x, rfl, g0, u0, m0, g1, u1, m1, g2, u2, m2, g3, u3, m3, g4, u4, m4⟩ := hE
      have h0 := (HK.out.1.bel.cell (p := ⟨b, 0, none⟩) m0).trans g0
      have l0 := Nat.lt_of_lt_of_le m0 HK.out.1.bel.size
      have h1 := (HK.out.1.bel.cell (p := ⟨b + 1, 0, none⟩) m1).trans g1
      have l1 := Nat.lt_of_lt_of_le m1 HK.out.1.bel.size
      have h2 := (HK.out.1.bel.cell (p := ⟨c, 0, none⟩) m2).trans g2
      have l2 := Nat.lt_of_lt_of_le m2 HK.out.1.bel.size
      have h3 := (HK.out.1.bel.cell (p := ⟨d, 0, none⟩) m3).trans g3
      have l3 := Nat.lt_of_lt_of_le m3 HK.out.1.bel.size
      have h4 := (HK.out.1.bel.cell (p := ⟨x, 0, none⟩) m4).trans g4
      have l4 := Nat.lt_of_lt_of_le m4 HK.out.1.bel.size
      have ht : T < w2.heap.size := H2.out.1.lt.2
      have t0 : wr.cell? ⟨T, 10, none⟩ = some (.int .i64 2) := (HK.out.1.bel.cell (p := ⟨T, 10, none⟩) ht).trans (hc 0 (by decide))
      have t1 : wr.cell? ⟨T, 11, none⟩ = some (.func (.func 110) #[] #[.pointer (some ⟨(b + 1), 0, none⟩), .pointer (some ⟨b, 0, none⟩)]) := (HK.out.1.bel.cell (p := ⟨T, 11, none⟩) ht).trans (hc 1 (by decide))
      have t2 : wr.cell? ⟨T, 12, none⟩ = some (.func (.func 103) #[] #[.pointer (some ⟨c, 0, none⟩)]) := (HK.out.1.bel.cell (p := ⟨T, 12, none⟩) ht).trans (hc 2 (by decide))
      have t3 : wr.cell? ⟨T, 13, none⟩ = some (.func (.func 111) #[] #[.pointer (some ⟨b, 0, none⟩)]) := (HK.out.1.bel.cell (p := ⟨T, 13, none⟩) ht).trans (hc 3 (by decide))
      have t4 : wr.cell? ⟨T, 14, none⟩ = some (.func (.func 104) #[] #[.pointer (some ⟨c, 0, none⟩), .pointer (some ⟨x, 0, none⟩)]) := (HK.out.1.bel.cell (p := ⟨T, 14, none⟩) ht).trans (hc 4 (by decide))
      have cx : wr.cell? ⟨w.heap.size, 11, none⟩ = some (.slice d3 p.t.length p3) := by rw [bk_cell HK.out.2.2]; rfl
      have lx : w.heap.size < wr.heap.size := (Array.getElem?_eq_some_iff.1 HK.out.2.2).1
      have B1 : ∀ o, Below wr.heap.size wr (wr.alloc o) := fun o => (Below.refl _ _).alloc (Nat.le_refl _) o
      have CT := tokTold c w.heap.size 11 d3 p.t.length p3 (wr.alloc (.cells #[.int .i64 2, .func (.func 110) #[] #[.pointer (some ⟨(b + 1), 0, none⟩), .pointer (some ⟨b, 0, none⟩)], .func (.func 103) #[] #[.pointer (some ⟨c, 0, none⟩)], .func (.func 111) #[] #[.pointer (some ⟨b, 0, none⟩)], .func (.func 104) #[] #[.pointer (some ⟨c, 0, none⟩), .pointer (some ⟨x, 0, none⟩)]] 105)) (by have := H0.out.2.2.2.2.2.2.2.1.2.1; omega) (((B1 _).cell (p := ⟨c, 0, none⟩) l2).trans h2) (((B1 _).cell (p := ⟨w.heap.size, 11, none⟩) lx).trans cx)
      obtain ⟨t, et⟩ : ∃ t : Bool, t = (decide (0 < p.t.length)) := ⟨_, rfl⟩
      rw [← et] at CT
      have ET : Hid _ := And.intro et True.intro
      clear et
      have BA : Below wr.heap.size wr ((wr.alloc (.cells #[.int .i64 2, .func (.func 110) #[] #[.pointer (some ⟨(b + 1), 0, none⟩), .pointer (some ⟨b, 0, none⟩)], .func (.func 103) #[] #[.pointer (some ⟨c, 0, none⟩)], .func (.func 111) #[] #[.pointer (some ⟨b, 0, none⟩)], .func (.func 104) #[] #[.pointer (some ⟨c, 0, none⟩), .pointer (some ⟨x, 0, none⟩)]] 105)).drew.alloc (.cells #[.int .i64 2] 3)) := (below_drewN (B1 _) 1).alloc (by show wr.heap.size ≤ (wr.alloc _).heap.size; simp) _
      have C3 := putN1 w2.heap.size u6 (parA p s 2) 2 (wr.heap.size + 1) ((wr.alloc (.cells #[.int .i64 2, .func (.func 110) #[] #[.pointer (some ⟨(b + 1), 0, none⟩), .pointer (some ⟨b, 0, none⟩)], .func (.func 103) #[] #[.pointer (some ⟨c, 0, none⟩)], .func (.func 111) #[] #[.pointer (some ⟨b, 0, none⟩)], .func (.func 104) #[] #[.pointer (some ⟨c, 0, none⟩), .pointer (some ⟨x, 0, none⟩)]] 105)).drew.alloc (.cells #[.int .i64 2] 3)) (H0.out.2.2.2.2.2.2.2.2 _ (HK.out.2.1.trans (BA.mono HK.out.2.1.size))) (owns_below HK.out.1.own BA) (Nat.le_trans HK.out.1.bel.size BA.size) (by have := H0.out.2.2.2.2.2.2.1 2 (by decide); omega) (by decide) (by decide) (cell_new (t := 3) (newAt1 _ _ _ (by show (wr.alloc _).heap.size = _; simp)))
      have gB : ((wr.alloc (.cells #[.int .i64 2, .func (.func 110) #[] #[.pointer (some ⟨(b + 1), 0, none⟩), .pointer (some ⟨b, 0, none⟩)], .func (.func 103) #[] #[.pointer (some ⟨c, 0, none⟩)], .func (.func 111) #[] #[.pointer (some ⟨b, 0, none⟩)], .func (.func 104) #[] #[.pointer (some ⟨c, 0, none⟩), .pointer (some ⟨x, 0, none⟩)]] 105)).drew.alloc (.cells #[.int .i64 2] 3)).heap[wr.heap.size]? = some (.cells #[.int .i64 2, .func (.func 110) #[] #[.pointer (some ⟨(b + 1), 0, none⟩), .pointer (some ⟨b, 0, none⟩)], .func (.func 103) #[] #[.pointer (some ⟨c, 0, none⟩)], .func (.func 111) #[] #[.pointer (some ⟨b, 0, none⟩)], .func (.func 104) #[] #[.pointer (some ⟨c, 0, none⟩), .pointer (some ⟨x, 0, none⟩)]] 105) := (Below.heap_alloc _ _ _ (by show wr.heap.size < (wr.alloc _).heap.size; simp)).trans (heap_alloc_new wr (.cells #[.int .i64 2, .func (.func 110) #[] #[.pointer (some ⟨(b + 1), 0, none⟩), .pointer (some ⟨b, 0, none⟩)], .func (.func 103) #[] #[.pointer (some ⟨c, 0, none⟩)], .func (.func 111) #[] #[.pointer (some ⟨b, 0, none⟩)], .func (.func 104) #[] #[.pointer (some ⟨c, 0, none⟩), .pointer (some ⟨x, 0, none⟩)]] 105))
      have HV : Hid _ := And.intro CT (And.intro C3 (And.intro BA (And.intro gB (And.intro h0 (And.intro l0 (And.intro m0 (And.intro cx lx)))))))
      clear CT C3 BA gB hc hz B1 cx h0 u0 l0 g0 m0 h1 u1 l1 g1 m1 h2 u2 l2 g2 m2 h3 u3 l3 g3 m3 h4 u4 l4 g4 m4
      cases t
      · skip
        go_wp2_with (go_at_call 103; refine HV.out.1.mono ?_; rintro e w3 ⟨rfl, hw⟩; subst w3)
        have K1 := HK.out.1.skip (k := 2) (by decide) (by show (if 0 < p.t.length then entB 2 p.t else []) = []; rw [if_neg (by have := ET.out.1; simp at this; simp [this])])
        go_roundg (13 - (2 + 1))
        case measure => omega
        case rel => exact ⟨3, by omega, rfl, by go_num, ⟨owns_below K1.own ((Below.refl _ _).alloc (Nat.le_refl _) _), K1.bel.alloc K1.bel.size _⟩⟩
      · skip
        go_wp2_with (go_at_call 103; refine HV.out.1.mono ?_; rintro e w3 ⟨rfl, hw⟩; subst w3)
        have tok1 : True := trivial
        have tok2 : True := trivial
        have cA0 : (wr.alloc (.cells #[.int .i64 2, .func (.func 110) #[] #[.pointer (some ⟨(b + 1), 0, none⟩), .pointer (some ⟨b, 0, none⟩)], .func (.func 103) #[] #[.pointer (some ⟨c, 0, none⟩)], .func (.func 111) #[] #[.pointer (some ⟨b, 0, none⟩)], .func (.func 104) #[] #[.pointer (some ⟨c, 0, none⟩), .pointer (some ⟨x, 0, none⟩)]] 105)).cell? ⟨wr.heap.size, 0, none⟩ = some (.int .i64 2) := by rw [bk_cell (heap_alloc_new wr (.cells #[.int .i64 2, .func (.func 110) #[] #[.pointer (some ⟨(b + 1), 0, none⟩), .pointer (some ⟨b, 0, none⟩)], .func (.func 103) #[] #[.pointer (some ⟨c, 0, none⟩)], .func (.func 111) #[] #[.pointer (some ⟨b, 0, none⟩)], .func (.func 104) #[] #[.pointer (some ⟨c, 0, none⟩), .pointer (some ⟨x, 0, none⟩)]] 105))]; rfl
        have cA3 : (wr.alloc (.cells #[.int .i64 2, .func (.func 110) #[] #[.pointer (some ⟨(b + 1), 0, none⟩), .pointer (some ⟨b, 0, none⟩)], .func (.func 103) #[] #[.pointer (some ⟨c, 0, none⟩)], .func (.func 111) #[] #[.pointer (some ⟨b, 0, none⟩)], .func (.func 104) #[] #[.pointer (some ⟨c, 0, none⟩), .pointer (some ⟨x, 0, none⟩)]] 105)).cell? ⟨wr.heap.size, 3, none⟩ = some (.func (.func 111) #[] #[.pointer (some ⟨b, 0, none⟩)]) := by rw [bk_cell (heap_alloc_new wr (.cells #[.int .i64 2, .func (.func 110) #[] #[.pointer (some ⟨(b + 1), 0, none⟩), .pointer (some ⟨b, 0, none⟩)], .func (.func 103) #[] #[.pointer (some ⟨c, 0, none⟩)], .func (.func 111) #[] #[.pointer (some ⟨b, 0, none⟩)], .func (.func 104) #[] #[.pointer (some ⟨c, 0, none⟩), .pointer (some ⟨x, 0, none⟩)]] 105))]; rfl
        go_upto_region 8 with fail
        go_region_held3 (fun w' => w'.cell? ⟨wr.heap.size, 0, none⟩ = some (.int .i64 2) ∧ w'.cell? ⟨wr.heap.size, 3, none⟩ = some (.func (.func 111) #[] #[.pointer (some ⟨b, 0, none⟩)])) (go_keep)
          (first
          | (go_at_call 75; have _t := tok1; refine HV.out.2.1.mono ?_; rintro e w3 ⟨r3, rfl, o3, G3⟩; have k3 := G3.chg.block wr.heap.size (Array.getElem?_eq_some_iff.1 HV.out.2.2.2.1).1 (fun e => by have := (HK.out.1.own.lt _ e).2; omega); have c30 : w3.cell? ⟨wr.heap.size, 0, none⟩ = some (.int .i64 2) := (by rw [bk_cell (k3.trans HV.out.2.2.2.1)]; rfl); have c33 : w3.cell? ⟨wr.heap.size, 3, none⟩ = some (.func (.func 111) #[] #[.pointer (some ⟨b, 0, none⟩)]) := (by rw [bk_cell (k3.trans HV.out.2.2.2.1)]; rfl); have H3 : Hid _ := And.intro o3 (And.intro G3 (And.intro (k3.trans HV.out.2.2.2.1) ((HK.out.1.bel.trans (HV.out.2.2.1.mono HK.out.1.bel.size)).trans (G3.below (owns_below HK.out.1.own HV.out.2.2.1) (Nat.le_trans HK.out.1.bel.size HV.out.2.2.1.size))))); clear o3 G3 k3 tok1)
          | (go_at_call 111; have _t := tok2; have kb : w3.cell? ⟨b, 0, none⟩ = wr.cell? ⟨b, 0, none⟩ := keep_cell H3.out.2.1 HV.out.2.2.1 HK.out.1.own HV.out.2.2.2.2.2.2.1 HV.out.2.2.2.2.2.1; have kg : w3.cell? ⟨w.heap.size, 11, none⟩ = wr.cell? ⟨w.heap.size, 11, none⟩ := keep_cell H3.out.2.1 HV.out.2.2.1 HK.out.1.own (by omega) lx; refine (lstVal b w.heap.size 11 d3 p.t.length p3 w3 (kb.trans HV.out.2.2.2.2.1) (kg.trans HV.out.2.2.2.2.2.2.2.1)).mono ?_; rintro e w4 ⟨rfl, hw4⟩; subst w4; clear kb kg tok2)
          | (go_at_call 53; have al4 : Below w3.heap.size w3 (w3.alloc (.cells #[.slice d3 p.t.length p3] 22)) := (Below.refl _ _).alloc (Nat.le_refl _) _; have B34 : Below w3.heap.size w3 (w3.alloc (.cells #[.slice d3 p.t.length p3] 22)) := (Below.refl w3.heap.size w3).trans (al4.mono (Below.refl w3.heap.size w3).size); refine (putC1 w2.heap.size r3 (.slice d3 p.t.length p3) (parA p s 2 ++ putv 2) (p.t) w3.heap.size (w3.alloc (.cells #[.slice d3 p.t.length p3] 22)) (H0.out.2.2.2.2.2.2.2.2 _ ((H2.out.2.1.trans (H3.out.2.2.2.mono H2.out.2.1.size)).trans (B34.mono (Nat.le_trans H2.out.2.1.size H3.out.2.2.2.size)))) (owns_below H3.out.1 B34) (((H0.out.2.2.2.2.1.below H2.out.2.1).below H3.out.2.2.2).below al4) (fun hx k h h2 => by have := own_of_row H0.out.2.2.2.2.1 hx h; have := (H3.out.1.lt k h2).1; omega) (Nat.le_trans H3.out.2.2.2.size B34.size) (by have := H0.out.2.2.2.2.2.2.1 2 (by decide); have := putv_le 2 (by decide) (by decide); rw [List.length_append]; omega) (by have := H0.out.2.2.2.2.2.2.2.1.2.1; omega) (laid1 _ _ _)).mono ?_; rintro e w5 ⟨r5, rfl, o5, G5⟩; have k5 := (G5.chg.block wr.heap.size (Nat.lt_of_lt_of_le (Array.getElem?_eq_some_iff.1 H3.out.2.2.1).1 B34.size) (fun e => (H3.out.2.1.loc _ e).elim (fun q => by have := (HK.out.1.own.lt _ q).2; omega) (fun q => by have := (Array.getElem?_eq_some_iff.1 HV.out.2.2.2.1).1; omega))).trans ((B34.block wr.heap.size (Array.getElem?_eq_some_iff.1 H3.out.2.2.1).1).trans H3.out.2.2.1); have c50 : w5.cell? ⟨wr.heap.size, 0, none⟩ = some (.int .i64 2) := (by rw [bk_cell k5]; rfl); have c53 : w5.cell? ⟨wr.heap.size, 3, none⟩ = some (.func (.func 111) #[] #[.pointer (some ⟨b, 0, none⟩)]) := (by rw [bk_cell k5]; rfl); clear k5; have H5 : Hid _ := And.intro o5 (And.intro G5 B34); clear o5 G5 al4 B34))
        all_goals
          have K1 : Hid (OutK w2 w5 r5 p s 3) := HK.out.1.told (k := 2) (num := 2) (ys := p.t) (by decide) HV.out.2.2.1 H3.out.2.1 H5.out.2.2 H5.out.2.1 H5.out.1 (by show (if 0 < p.t.length then entB 2 p.t else []) = _; rw [if_pos (by have := ET.out.1; simpa using this.symm)])
          go_wp2_with fail
          go_roundg (13 - (2 + 1))
          case measure => omega
          case rel => exact ⟨3, by omega, rfl, by go_num, K1.out⟩
    · obtain ⟨cs, ⟨hz, hc⟩, hE⟩ := H2.out.1.e3
      obtain ⟨b, rfl, g0, u0, m0, g1, u1, m1, g2, u2, m2⟩ := hE
      have h0 := (HK.out.1.bel.cell (p := ⟨b, 0, none⟩) m0).trans g0
      have l0 := Nat.lt_of_lt_of_le m0 HK.out.1.bel.size
      have h1 := (HK.out.1.bel.cell (p := ⟨b + 1, 0, none⟩) m1).trans g1
      have l1 := Nat.lt_of_lt_of_le m1 HK.out.1.bel.size
      have h2 := (HK.out.1.bel.cell (p := ⟨b + 2, 0, none⟩) m2).trans g2
      have l2 := Nat.lt_of_lt_of_le m2 HK.out.1.bel.size
      have ht : T < w2.heap.size := H2.out.1.lt.2
      have t0 : wr.cell? ⟨T, 15, none⟩ = some (.int .i64 3) := (HK.out.1.bel.cell (p := ⟨T, 15, none⟩) ht).trans (hc 0 (by decide))
      have t1 : wr.cell? ⟨T, 16, none⟩ = some (.func (.func 97) #[] #[.pointer (some ⟨b, 0, none⟩), .pointer (some ⟨(b + 1), 0, none⟩), .pointer (some ⟨(b + 2), 0, none⟩)]) := (HK.out.1.bel.cell (p := ⟨T, 16, none⟩) ht).trans (hc 1 (by decide))
      have t2 : wr.cell? ⟨T, 17, none⟩ = some (.func (.func 98) #[] #[]) := (HK.out.1.bel.cell (p := ⟨T, 17, none⟩) ht).trans (hc 2 (by decide))
      have t3 : wr.cell? ⟨T, 18, none⟩ = some (.func (.func 99) #[] #[.pointer (some ⟨b, 0, none⟩)]) := (HK.out.1.bel.cell (p := ⟨T, 18, none⟩) ht).trans (hc 3 (by decide))
      have t4 : wr.cell? ⟨T, 19, none⟩ = some (.func (.func 100) #[] #[.pointer (some ⟨b, 0, none⟩)]) := (HK.out.1.bel.cell (p := ⟨T, 19, none⟩) ht).trans (hc 4 (by decide))
      have cx : wr.cell? ⟨w.heap.size, 1, none⟩ = some (.int .i64 p.a1) := by rw [bk_cell HK.out.2.2]; rfl
      have lx : w.heap.size < wr.heap.size := (Array.getElem?_eq_some_iff.1 HK.out.2.2).1
      have B1 : ∀ o, Below wr.heap.size wr (wr.alloc o) := fun o => (Below.refl _ _).alloc (Nat.le_refl _) o
      have CT := alwaysC (wr.alloc (.cells #[.int .i64 3, .func (.func 97) #[] #[.pointer (some ⟨b, 0, none⟩), .pointer (some ⟨(b + 1), 0, none⟩), .pointer (some ⟨(b + 2), 0, none⟩)], .func (.func 98) #[] #[], .func (.func 99) #[] #[.pointer (some ⟨b, 0, none⟩)], .func (.func 100) #[] #[.pointer (some ⟨b, 0, none⟩)]] 105))
      have BA : Below wr.heap.size wr ((wr.alloc (.cells #[.int .i64 3, .func (.func 97) #[] #[.pointer (some ⟨b, 0, none⟩), .pointer (some ⟨(b + 1), 0, none⟩), .pointer (some ⟨(b + 2), 0, none⟩)], .func (.func 98) #[] #[], .func (.func 99) #[] #[.pointer (some ⟨b, 0, none⟩)], .func (.func 100) #[] #[.pointer (some ⟨b, 0, none⟩)]] 105)).drew.alloc (.cells #[.int .i64 3] 3)) := (below_drewN (B1 _) 1).alloc (by show wr.heap.size ≤ (wr.alloc _).heap.size; simp) _
      have C3 := putN1 w2.heap.size u6 (parA p s 3) 3 (wr.heap.size + 1) ((wr.alloc (.cells #[.int .i64 3, .func (.func 97) #[] #[.pointer (some ⟨b, 0, none⟩), .pointer (some ⟨(b + 1), 0, none⟩), .pointer (some ⟨(b + 2), 0, none⟩)], .func (.func 98) #[] #[], .func (.func 99) #[] #[.pointer (some ⟨b, 0, none⟩)], .func (.func 100) #[] #[.pointer (some ⟨b, 0, none⟩)]] 105)).drew.alloc (.cells #[.int .i64 3] 3)) (H0.out.2.2.2.2.2.2.2.2 _ (HK.out.2.1.trans (BA.mono HK.out.2.1.size))) (owns_below HK.out.1.own BA) (Nat.le_trans HK.out.1.bel.size BA.size) (by have := H0.out.2.2.2.2.2.2.1 3 (by decide); omega) (by decide) (by decide) (cell_new (t := 3) (newAt1 _ _ _ (by show (wr.alloc _).heap.size = _; simp)))
      have gB : ((wr.alloc (.cells #[.int .i64 3, .func (.func 97) #[] #[.pointer (some ⟨b, 0, none⟩), .pointer (some ⟨(b + 1), 0, none⟩), .pointer (some ⟨(b + 2), 0, none⟩)], .func (.func 98) #[] #[], .func (.func 99) #[] #[.pointer (some ⟨b, 0, none⟩)], .func (.func 100) #[] #[.pointer (some ⟨b, 0, none⟩)]] 105)).drew.alloc (.cells #[.int .i64 3] 3)).heap[wr.heap.size]? = some (.cells #[.int .i64 3, .func (.func 97) #[] #[.pointer (some ⟨b, 0, none⟩), .pointer (some ⟨(b + 1), 0, none⟩), .pointer (some ⟨(b + 2), 0, none⟩)], .func (.func 98) #[] #[], .func (.func 99) #[] #[.pointer (some ⟨b, 0, none⟩)], .func (.func 100) #[] #[.pointer (some ⟨b, 0, none⟩)]] 105) := (Below.heap_alloc _ _ _ (by show wr.heap.size < (wr.alloc _).heap.size; simp)).trans (heap_alloc_new wr (.cells #[.int .i64 3, .func (.func 97) #[] #[.pointer (some ⟨b, 0, none⟩), .pointer (some ⟨(b + 1), 0, none⟩), .pointer (some ⟨(b + 2), 0, none⟩)], .func (.func 98) #[] #[], .func (.func 99) #[] #[.pointer (some ⟨b, 0, none⟩)], .func (.func 100) #[] #[.pointer (some ⟨b, 0, none⟩)]] 105))
      have HV : Hid _ := And.intro CT (And.intro C3 (And.intro BA (And.intro gB (And.intro h0 (And.intro l0 (And.intro m0 (And.intro cx lx)))))))
      clear CT C3 BA gB hc hz B1 cx h0 u0 l0 g0 m0 h1 u1 l1 g1 m1 h2 u2 l2 g2 m2
      go_wp2_with (go_at_call 98; refine HV.out.1.mono ?_; rintro e w3 ⟨rfl, hw⟩; subst w3)
      have tok1 : True := trivial
      have tok2 : True := trivial
      have cA0 : (wr.alloc (.cells #[.int .i64 3, .func (.func 97) #[] #[.pointer (some ⟨b, 0, none⟩), .pointer (some ⟨(b + 1), 0, none⟩), .pointer (some ⟨(b + 2), 0, none⟩)], .func (.func 98) #[] #[], .func (.func 99) #[] #[.pointer (some ⟨b, 0, none⟩)], .func (.func 100) #[] #[.pointer (some ⟨b, 0, none⟩)]] 105)).cell? ⟨wr.heap.size, 0, none⟩ = some (.int .i64 3) := by rw [bk_cell (heap_alloc_new wr (.cells #[.int .i64 3, .func (.func 97) #[] #[.pointer (some ⟨b, 0, none⟩), .pointer (some ⟨(b + 1), 0, none⟩), .pointer (some ⟨(b + 2), 0, none⟩)], .func (.func 98) #[] #[], .func (.func 99) #[] #[.pointer (some ⟨b, 0, none⟩)], .func (.func 100) #[] #[.pointer (some ⟨b, 0, none⟩)]] 105))]; rfl
      have cA3 : (wr.alloc (.cells #[.int .i64 3, .func (.func 97) #[] #[.pointer (some ⟨b, 0, none⟩), .pointer (some ⟨(b + 1), 0, none⟩), .pointer (some ⟨(b + 2), 0, none⟩)], .func (.func 98) #[] #[], .func (.func 99) #[] #[.pointer (some ⟨b, 0, none⟩)], .func (.func 100) #[] #[.pointer (some ⟨b, 0, none⟩)]] 105)).cell? ⟨wr.heap.size, 3, none⟩ = some (.func (.func 99) #[] #[.pointer (some ⟨b, 0, none⟩)]) := by rw [bk_cell (heap_alloc_new wr (.cells #[.int .i64 3, .func (.func 97) #[] #[.pointer (some ⟨b, 0, none⟩), .pointer (some ⟨(b + 1), 0, none⟩), .pointer (some ⟨(b + 2), 0, none⟩)], .func (.func 98) #[] #[], .func (.func 99) #[] #[.pointer (some ⟨b, 0, none⟩)], .func (.func 100) #[] #[.pointer (some ⟨b, 0, none⟩)]] 105))]; rfl
      go_upto_region 8 with fail
      go_region_held3 (fun w' => w'.cell? ⟨wr.heap.size, 0, none⟩ = some (.int .i64 3) ∧ w'.cell? ⟨wr.heap.size, 3, none⟩ = some (.func (.func 99) #[] #[.pointer (some ⟨b, 0, none⟩)])) (go_keep)
        (first
        | (go_at_call 75; have _t := tok1; refine HV.out.2.1.mono ?_; rintro e w3 ⟨r3, rfl, o3, G3⟩; have k3 := G3.chg.block wr.heap.size (Array.getElem?_eq_some_iff.1 HV.out.2.2.2.1).1 (fun e => by have := (HK.out.1.own.lt _ e).2; omega); have c30 : w3.cell? ⟨wr.heap.size, 0, none⟩ = some (.int .i64 3) := (by rw [bk_cell (k3.trans HV.out.2.2.2.1)]; rfl); have c33 : w3.cell? ⟨wr.heap.size, 3, none⟩ = some (.func (.func 99) #[] #[.pointer (some ⟨b, 0, none⟩)]) := (by rw [bk_cell (k3.trans HV.out.2.2.2.1)]; rfl); have H3 : Hid _ := And.intro o3 (And.intro G3 (And.intro (k3.trans HV.out.2.2.2.1) ((HK.out.1.bel.trans (HV.out.2.2.1.mono HK.out.1.bel.size)).trans (G3.below (owns_below HK.out.1.own HV.out.2.2.1) (Nat.le_trans HK.out.1.bel.size HV.out.2.2.1.size))))); clear o3 G3 k3 tok1)
        | (go_at_call 99; have _t := tok2; have kb : w3.cell? ⟨b, 0, none⟩ = wr.cell? ⟨b, 0, none⟩ := keep_cell H3.out.2.1 HV.out.2.2.1 HK.out.1.own HV.out.2.2.2.2.2.2.1 HV.out.2.2.2.2.2.1; have kg : w3.cell? ⟨w.heap.size, 1, none⟩ = wr.cell? ⟨w.heap.size, 1, none⟩ := keep_cell H3.out.2.1 HV.out.2.2.1 HK.out.1.own (by omega) lx; refine (numVal b w.heap.size 1 p.a1 w3 (H0.out.2.2.2.2.2.2.2.2 _ (H2.out.2.1.trans (H3.out.2.2.2.mono H2.out.2.1.size))) (by have := HQ.out.2.1; omega) (by have := HQ.out.2.1; omega) (kb.trans HV.out.2.2.2.2.1) (kg.trans HV.out.2.2.2.2.2.2.2.1)).mono ?_; rintro e w4 ⟨r4, rfl, o4, b4⟩; obtain ⟨a4, q4, er⟩ := (row_of_owns o4).form; subst er; have c40 : w4.cell? ⟨wr.heap.size, 0, none⟩ = some (.int .i64 3) := (by rw [bk_cell ((b4.block wr.heap.size (Array.getElem?_eq_some_iff.1 H3.out.2.2.1).1).trans H3.out.2.2.1)]; rfl); have c43 : w4.cell? ⟨wr.heap.size, 3, none⟩ = some (.func (.func 99) #[] #[.pointer (some ⟨b, 0, none⟩)]) := (by rw [bk_cell ((b4.block wr.heap.size (Array.getElem?_eq_some_iff.1 H3.out.2.2.1).1).trans H3.out.2.2.1)]; rfl); have H4 : Hid _ := And.intro b4 (And.intro (row_of_owns o4) (fun (hx : (putv p.a1) ≠ []) k (e : Value.ownBlock _ = some k) => (o4.lt k e).1)); clear o4 b4 kb kg tok2)
        | (go_at_call 53; have al4 : Below w4.heap.size w4 (w4.alloc (.cells #[.slice a4 (putv p.a1).length q4] 22)) := (Below.refl _ _).alloc (Nat.le_refl _) _; have B34 : Below w3.heap.size w3 (w4.alloc (.cells #[.slice a4 (putv p.a1).length q4] 22)) := H4.out.1.trans (al4.mono H4.out.1.size); refine (putC1 w2.heap.size r3 (.slice a4 (putv p.a1).length q4) (parA p s 3 ++ putv 3) (putv p.a1) w4.heap.size (w4.alloc (.cells #[.slice a4 (putv p.a1).length q4] 22)) (H0.out.2.2.2.2.2.2.2.2 _ ((H2.out.2.1.trans (H3.out.2.2.2.mono H2.out.2.1.size)).trans (B34.mono (Nat.le_trans H2.out.2.1.size H3.out.2.2.2.size)))) (owns_below H3.out.1 B34) (H4.out.2.1.below al4) (fun hx k h h2 => by have := H4.out.2.2 hx k h; have := (H3.out.1.lt k h2).2; omega) (Nat.le_trans H3.out.2.2.2.size B34.size) (by have := H0.out.2.2.2.2.2.2.1 3 (by decide); have := putv_le 3 (by decide) (by decide); rw [List.length_append]; omega) (by have := putv_le p.a1 (by have := HQ.out.2.1; omega) (by have := HQ.out.2.1; omega); omega) (laid1 _ _ _)).mono ?_; rintro e w5 ⟨r5, rfl, o5, G5⟩; have k5 := (G5.chg.block wr.heap.size (Nat.lt_of_lt_of_le (Array.getElem?_eq_some_iff.1 H3.out.2.2.1).1 B34.size) (fun e => (H3.out.2.1.loc _ e).elim (fun q => by have := (HK.out.1.own.lt _ q).2; omega) (fun q => by have := (Array.getElem?_eq_some_iff.1 HV.out.2.2.2.1).1; omega))).trans ((B34.block wr.heap.size (Array.getElem?_eq_some_iff.1 H3.out.2.2.1).1).trans H3.out.2.2.1); have c50 : w5.cell? ⟨wr.heap.size, 0, none⟩ = some (.int .i64 3) := (by rw [bk_cell k5]; rfl); have c53 : w5.cell? ⟨wr.heap.size, 3, none⟩ = some (.func (.func 99) #[] #[.pointer (some ⟨b, 0, none⟩)]) := (by rw [bk_cell k5]; rfl); clear k5; have H5 : Hid _ := And.intro o5 (And.intro G5 B34); clear o5 G5 al4 B34))
      all_goals
        have K1 : Hid (OutK w2 w5 r5 p s 4) := HK.out.1.told (k := 3) (num := 3) (ys := putv p.a1) (by decide) HV.out.2.2.1 H3.out.2.1 H5.out.2.2 H5.out.2.1 H5.out.1 (rfl)
        go_wp2_with fail
        go_roundg (13 - (3 + 1))
        case measure => omega
        case rel => exact ⟨4, by omega, rfl, by go_num, K1.out⟩
    · obtain ⟨cs, ⟨hz, hc⟩, hE⟩ := H2.out.1.e4
      obtain ⟨b, rfl, g0, u0, m0, g1, u1, m1, g2, u2, m2⟩ := hE
      have h0 := (HK.out.1.bel.cell (p := ⟨b, 0, none⟩) m0).trans g0
      have l0 := Nat.lt_of_lt_of_le m0 HK.out.1.bel.size
      have h1 := (HK.out.1.bel.cell (p := ⟨b + 1, 0, none⟩) m1).trans g1
      have l1 := Nat.lt_of_lt_of_le m1 HK.out.1.bel.size
      have h2 := (HK.out.1.bel.cell (p := ⟨b + 2, 0, none⟩) m2).trans g2
      have l2 := Nat.lt_of_lt_of_le m2 HK.out.1.bel.size
      have ht : T < w2.heap.size := H2.out.1.lt.2
      have t0 : wr.cell? ⟨T, 20, none⟩ = some (.int .i64 4) := (HK.out.1.bel.cell (p := ⟨T, 20, none⟩) ht).trans (hc 0 (by decide))
      have t1 : wr.cell? ⟨T, 21, none⟩ = some (.func (.func 97) #[] #[.pointer (some ⟨b, 0, none⟩), .pointer (some ⟨(b + 1), 0, none⟩), .pointer (some ⟨(b + 2), 0, none⟩)]) := (HK.out.1.bel.cell (p := ⟨T, 21, none⟩) ht).trans (hc 1 (by decide))
      have t2 : wr.cell? ⟨T, 22, none⟩ = some (.func (.func 98) #[] #[]) := (HK.out.1.bel.cell (p := ⟨T, 22, none⟩) ht).trans (hc 2 (by decide))
      have t3 : wr.cell? ⟨T, 23, none⟩ = some (.func (.func 99) #[] #[.pointer (some ⟨b, 0, none⟩)]) := (HK.out.1.bel.cell (p := ⟨T, 23, none⟩) ht).trans (hc 3 (by decide))
      have t4 : wr.cell? ⟨T, 24, none⟩ = some (.func (.func 100) #[] #[.pointer (some ⟨b, 0, none⟩)]) := (HK.out.1.bel.cell (p := ⟨T, 24, none⟩) ht).trans (hc 4 (by decide))
      have cx : wr.cell? ⟨w.heap.size, 2, none⟩ = some (.int .i64 p.a2) := by rw [bk_cell HK.out.2.2]; rfl
      have lx : w.heap.size < wr.heap.size := (Array.getElem?_eq_some_iff.1 HK.out.2.2).1
      have B1 : ∀ o, Below wr.heap.size wr (wr.alloc o) := fun o => (Below.refl _ _).alloc (Nat.le_refl _) o
      have CT := alwaysC (wr.alloc (.cells #[.int .i64 4, .func (.func 97) #[] #[.pointer (some ⟨b, 0, none⟩), .pointer (some ⟨(b + 1), 0, none⟩), .pointer (some ⟨(b + 2), 0, none⟩)], .func (.func 98) #[] #[], .func (.func 99) #[] #[.pointer (some ⟨b, 0, none⟩)], .func (.func 100) #[] #[.pointer (some ⟨b, 0, none⟩)]] 105))
      have BA : Below wr.heap.size wr ((wr.alloc (.cells #[.int .i64 4, .func (.func 97) #[] #[.pointer (some ⟨b, 0, none⟩), .pointer (some ⟨(b + 1), 0, none⟩), .pointer (some ⟨(b + 2), 0, none⟩)], .func (.func 98) #[] #[], .func (.func 99) #[] #[.pointer (some ⟨b, 0, none⟩)], .func (.func 100) #[] #[.pointer (some ⟨b, 0, none⟩)]] 105)).drew.alloc (.cells #[.int .i64 4] 3)) := (below_drewN (B1 _) 1).alloc (by show wr.heap.size ≤ (wr.alloc _).heap.size; simp) _
      have C3 := putN1 w2.heap.size u6 (parA p s 4) 4 (wr.heap.size + 1) ((wr.alloc (.cells #[.int .i64 4, .func (.func 97) #[] #[.pointer (some ⟨b, 0, none⟩), .pointer (some ⟨(b + 1), 0, none⟩), .pointer (some ⟨(b + 2), 0, none⟩)], .func (.func 98) #[] #[], .func (.func 99) #[] #[.pointer (some ⟨b, 0, none⟩)], .func (.func 100) #[] #[.pointer (some ⟨b, 0, none⟩)]] 105)).drew.alloc (.cells #[.int .i64 4] 3)) (H0.out.2.2.2.2.2.2.2.2 _ (HK.out.2.1.trans (BA.mono HK.out.2.1.size))) (owns_below HK.out.1.own BA) (Nat.le_trans HK.out.1.bel.size BA.size) (by have := H0.out.2.2.2.2.2.2.1 4 (by decide); omega) (by decide) (by decide) (cell_new (t := 3) (newAt1 _ _ _ (by show (wr.alloc _).heap.size = _; simp)))
      have gB : ((wr.alloc (.cells #[.int .i64 4, .func (.func 97) #[] #[.pointer (some ⟨b, 0, none⟩), .pointer (some ⟨(b + 1), 0, none⟩), .pointer (some ⟨(b + 2), 0, none⟩)], .func (.func 98) #[] #[], .func (.func 99) #[] #[.pointer (some ⟨b, 0, none⟩)], .func (.func 100) #[] #[.pointer (some ⟨b, 0, none⟩)]] 105)).drew.alloc (.cells #[.int .i64 4] 3)).heap[wr.heap.size]? = some (.cells #[.int .i64 4, .func (.func 97) #[] #[.pointer (some ⟨b, 0, none⟩), .pointer (some ⟨(b + 1), 0, none⟩), .pointer (some ⟨(b + 2), 0, none⟩)], .func (.func 98) #[] #[], .func (.func 99) #[] #[.pointer (some ⟨b, 0, none⟩)], .func (.func 100) #[] #[.pointer (some ⟨b, 0, none⟩)]] 105) := (Below.heap_alloc _ _ _ (by show wr.heap.size < (wr.alloc _).heap.size; simp)).trans (heap_alloc_new wr (.cells #[.int .i64 4, .func (.func 97) #[] #[.pointer (some ⟨b, 0, none⟩), .pointer (some ⟨(b + 1), 0, none⟩), .pointer (some ⟨(b + 2), 0, none⟩)], .func (.func 98) #[] #[], .func (.func 99) #[] #[.pointer (some ⟨b, 0, none⟩)], .func (.func 100) #[] #[.pointer (some ⟨b, 0, none⟩)]] 105))
      have HV : Hid _ := And.intro CT (And.intro C3 (And.intro BA (And.intro gB (And.intro h0 (And.intro l0 (And.intro m0 (And.intro cx lx)))))))
      clear CT C3 BA gB hc hz B1 cx h0 u0 l0 g0 m0 h1 u1 l1 g1 m1 h2 u2 l2 g2 m2
      go_wp2_with (go_at_call 98; refine HV.out.1.mono ?_; rintro e w3 ⟨rfl, hw⟩; subst w3)
      have tok1 : True := trivial
      have tok2 : True := trivial
      have cA0 : (wr.alloc (.cells #[.int .i64 4, .func (.func 97) #[] #[.pointer (some ⟨b, 0, none⟩), .pointer (some ⟨(b + 1), 0, none⟩), .pointer (some ⟨(b + 2), 0, none⟩)], .func (.func 98) #[] #[], .func (.func 99) #[] #[.pointer (some ⟨b, 0, none⟩)], .func (.func 100) #[] #[.pointer (some ⟨b, 0, none⟩)]] 105)).cell? ⟨wr.heap.size, 0, none⟩ = some (.int .i64 4) := by rw [bk_cell (heap_alloc_new wr (.cells #[.int .i64 4, .func (.func 97) #[] #[.pointer (some ⟨b, 0, none⟩), .pointer (some ⟨(b + 1), 0, none⟩), .pointer (some ⟨(b + 2), 0, none⟩)], .func (.func 98) #[] #[], .func (.func 99) #[] #[.pointer (some ⟨b, 0, none⟩)], .func (.func 100) #[] #[.pointer (some ⟨b, 0, none⟩)]] 105))]; rfl
      have cA3 : (wr.alloc (.cells #[.int .i64 4, .func (.func 97) #[] #[.pointer (some ⟨b, 0, none⟩), .pointer (some ⟨(b + 1), 0, none⟩), .pointer (some ⟨(b + 2), 0, none⟩)], .func (.func 98) #[] #[], .func (.func 99) #[] #[.pointer (some ⟨b, 0, none⟩)], .func (.func 100) #[] #[.pointer (some ⟨b, 0, none⟩)]] 105)).cell? ⟨wr.heap.size, 3, none⟩ = some (.func (.func 99) #[] #[.pointer (some ⟨b, 0, none⟩)]) := by rw [bk_cell (heap_alloc_new wr (.cells #[.int .i64 4, .func (.func 97) #[] #[.pointer (some ⟨b, 0, none⟩), .pointer (some ⟨(b + 1), 0, none⟩), .pointer (some ⟨(b + 2), 0, none⟩)], .func (.func 98) #[] #[], .func (.func 99) #[] #[.pointer (some ⟨b, 0, none⟩)], .func (.func 100) #[] #[.pointer (some ⟨b, 0, none⟩)]] 105))]; rfl
      go_upto_region 8 with fail
      go_region_held3 (fun w' => w'.cell? ⟨wr.heap.size, 0, none⟩ = some (.int .i64 4) ∧ w'.cell? ⟨wr.heap.size, 3, none⟩ = some (.func (.func 99) #[] #[.pointer (some ⟨b, 0, none⟩)])) (go_keep)
        (first
        | (go_at_call 75; have _t := tok1; refine HV.out.2.1.mono ?_; rintro e w3 ⟨r3, rfl, o3, G3⟩; have k3 := G3.chg.block wr.heap.size (Array.getElem?_eq_some_iff.1 HV.out.2.2.2.1).1 (fun e => by have := (HK.out.1.own.lt _ e).2; omega); have c30 : w3.cell? ⟨wr.heap.size, 0, none⟩ = some (.int .i64 4) := (by rw [bk_cell (k3.trans HV.out.2.2.2.1)]; rfl); have c33 : w3.cell? ⟨wr.heap.size, 3, none⟩ = some (.func (.func 99) #[] #[.pointer (some ⟨b, 0, none⟩)]) := (by rw [bk_cell (k3.trans HV.out.2.2.2.1)]; rfl); have H3 : Hid _ := And.intro o3 (And.intro G3 (And.intro (k3.trans HV.out.2.2.2.1) ((HK.out.1.bel.trans (HV.out.2.2.1.mono HK.out.1.bel.size)).trans (G3.below (owns_below HK.out.1.own HV.out.2.2.1) (Nat.le_trans HK.out.1.bel.size HV.out.2.2.1.size))))); clear o3 G3 k3 tok1)
        | (go_at_call 99; have _t := tok2; have kb : w3.cell? ⟨b, 0, none⟩ = wr.cell? ⟨b, 0, none⟩ := keep_cell H3.out.2.1 HV.out.2.2.1 HK.out.1.own HV.out.2.2.2.2.2.2.1 HV.out.2.2.2.2.2.1; have kg : w3.cell? ⟨w.heap.size, 2, none⟩ = wr.cell? ⟨w.heap.size, 2, none⟩ := keep_cell H3.out.2.1 HV.out.2.2.1 HK.out.1.own (by omega) lx; refine (numVal b w.heap.size 2 p.a2 w3 (H0.out.2.2.2.2.2.2.2.2 _ (H2.out.2.1.trans (H3.out.2.2.2.mono H2.out.2.1.size))) (by have := HQ.out.2.2.1; omega) (by have := HQ.out.2.2.1; omega) (kb.trans HV.out.2.2.2.2.1) (kg.trans HV.out.2.2.2.2.2.2.2.1)).mono ?_; rintro e w4 ⟨r4, rfl, o4, b4⟩; obtain ⟨a4, q4, er⟩ := (row_of_owns o4).form; subst er; have c40 : w4.cell? ⟨wr.heap.size, 0, none⟩ = some (.int .i64 4) := (by rw [bk_cell ((b4.block wr.heap.size (Array.getElem?_eq_some_iff.1 H3.out.2.2.1).1).trans H3.out.2.2.1)]; rfl); have c43 : w4.cell? ⟨wr.heap.size, 3, none⟩ = some (.func (.func 99) #[] #[.pointer (some ⟨b, 0, none⟩)]) := (by rw [bk_cell ((b4.block wr.heap.size (Array.getElem?_eq_some_iff.1 H3.out.2.2.1).1).trans H3.out.2.2.1)]; rfl); have H4 : Hid _ := And.intro b4 (And.intro (row_of_owns o4) (fun (hx : (putv p.a2) ≠ []) k (e : Value.ownBlock _ = some k) => (o4.lt k e).1)); clear o4 b4 kb kg tok2)
        | (go_at_call 53; have al4 : Below w4.heap.size w4 (w4.alloc (.cells #[.slice a4 (putv p.a2).length q4] 22)) := (Below.refl _ _).alloc (Nat.le_refl _) _; have B34 : Below w3.heap.size w3 (w4.alloc (.cells #[.slice a4 (putv p.a2).length q4] 22)) := H4.out.1.trans (al4.mono H4.out.1.size); refine (putC1 w2.heap.size r3 (.slice a4 (putv p.a2).length q4) (parA p s 4 ++ putv 4) (putv p.a2) w4.heap.size (w4.alloc (.cells #[.slice a4 (putv p.a2).length q4] 22)) (H0.out.2.2.2.2.2.2.2.2 _ ((H2.out.2.1.trans (H3.out.2.2.2.mono H2.out.2.1.size)).trans (B34.mono (Nat.le_trans H2.out.2.1.size H3.out.2.2.2.size)))) (owns_below H3.out.1 B34) (H4.out.2.1.below al4) (fun hx k h h2 => by have := H4.out.2.2 hx k h; have := (H3.out.1.lt k h2).2; omega) (Nat.le_trans H3.out.2.2.2.size B34.size) (by have := H0.out.2.2.2.2.2.2.1 4 (by decide); have := putv_le 4 (by decide) (by decide); rw [List.length_append]; omega) (by have := putv_le p.a2 (by have := HQ.out.2.2.1; omega) (by have := HQ.out.2.2.1; omega); omega) (laid1 _ _ _)).mono ?_; rintro e w5 ⟨r5, rfl, o5, G5⟩; have k5 := (G5.chg.block wr.heap.size (Nat.lt_of_lt_of_le (Array.getElem?_eq_some_iff.1 H3.out.2.2.1).1 B34.size) (fun e => (H3.out.2.1.loc _ e).elim (fun q => by have := (HK.out.1.own.lt _ q).2; omega) (fun q => by have := (Array.getElem?_eq_some_iff.1 HV.out.2.2.2.1).1; omega))).trans ((B34.block wr.heap.size (Array.getElem?_eq_some_iff.1 H3.out.2.2.1).1).trans H3.out.2.2.1); have c50 : w5.cell? ⟨wr.heap.size, 0, none⟩ = some (.int .i64 4) := (by rw [bk_cell k5]; rfl); have c53 : w5.cell? ⟨wr.heap.size, 3, none⟩ = some (.func (.func 99) #[] #[.pointer (some ⟨b, 0, none⟩)]) := (by rw [bk_cell k5]; rfl); clear k5; have H5 : Hid _ := And.intro o5 (And.intro G5 B34); clear o5 G5 al4 B34))
      all_goals
        have K1 : Hid (OutK w2 w5 r5 p s 5) := HK.out.1.told (k := 4) (num := 4) (ys := putv p.a2) (by decide) HV.out.2.2.1 H3.out.2.1 H5.out.2.2 H5.out.2.1 H5.out.1 (rfl)
        go_wp2_with fail
        go_roundg (13 - (4 + 1))
        case measure => omega
        case rel => exact ⟨5, by omega, rfl, by go_num, K1.out⟩
    · obtain ⟨cs, ⟨hz, hc⟩, hE⟩ := H2.out.1.e5
      obtain ⟨b, rfl, g0, u0, m0, g1, u1, m1, g2, u2, m2⟩ := hE
      have h0 := (HK.out.1.bel.cell (p := ⟨b, 0, none⟩) m0).trans g0
      have l0 := Nat.lt_of_lt_of_le m0 HK.out.1.bel.size
      have h1 := (HK.out.1.bel.cell (p := ⟨b + 1, 0, none⟩) m1).trans g1
      have l1 := Nat.lt_of_lt_of_le m1 HK.out.1.bel.size
      have h2 := (HK.out.1.bel.cell (p := ⟨b + 2, 0, none⟩) m2).trans g2
      have l2 := Nat.lt_of_lt_of_le m2 HK.out.1.bel.size
      have ht : T < w2.heap.size := H2.out.1.lt.2
      have t0 : wr.cell? ⟨T, 25, none⟩ = some (.int .i64 5) := (HK.out.1.bel.cell (p := ⟨T, 25, none⟩) ht).trans (hc 0 (by decide))
      have t1 : wr.cell? ⟨T, 26, none⟩ = some (.func (.func 97) #[] #[.pointer (some ⟨b, 0, none⟩), .pointer (some ⟨(b + 1), 0, none⟩), .pointer (some ⟨(b + 2), 0, none⟩)]) := (HK.out.1.bel.cell (p := ⟨T, 26, none⟩) ht).trans (hc 1 (by decide))
      have t2 : wr.cell? ⟨T, 27, none⟩ = some (.func (.func 98) #[] #[]) := (HK.out.1.bel.cell (p := ⟨T, 27, none⟩) ht).trans (hc 2 (by decide))
      have t3 : wr.cell? ⟨T, 28, none⟩ = some (.func (.func 99) #[] #[.pointer (some ⟨b, 0, none⟩)]) := (HK.out.1.bel.cell (p := ⟨T, 28, none⟩) ht).trans (hc 3 (by decide))
      have t4 : wr.cell? ⟨T, 29, none⟩ = some (.func (.func 100) #[] #[.pointer (some ⟨b, 0, none⟩)]) := (HK.out.1.bel.cell (p := ⟨T, 29, none⟩) ht).trans (hc 4 (by decide))
      have cx : wr.cell? ⟨w.heap.size, 3, none⟩ = some (.int .i64 p.a3) := by rw [bk_cell HK.out.2.2]; rfl
      have lx : w.heap.size < wr.heap.size := (Array.getElem?_eq_some_iff.1 HK.out.2.2).1
      have B1 : ∀ o, Below wr.heap.size wr (wr.alloc o) := fun o => (Below.refl _ _).alloc (Nat.le_refl _) o
      have CT := alwaysC (wr.alloc (.cells #[.int .i64 5, .func (.func 97) #[] #[.pointer (some ⟨b, 0, none⟩), .pointer (some ⟨(b + 1), 0, none⟩), .pointer (some ⟨(b + 2), 0, none⟩)], .func (.func 98) #[] #[], .func (.func 99) #[] #[.pointer (some ⟨b, 0, none⟩)], .func (.func 100) #[] #[.pointer (some ⟨b, 0, none⟩)]] 105))
      have BA : Below wr.heap.size wr ((wr.alloc (.cells #[.int .i64 5, .func (.func 97) #[] #[.pointer (some ⟨b, 0, none⟩), .pointer (some ⟨(b + 1), 0, none⟩), .pointer (some ⟨(b + 2), 0, none⟩)], .func (.func 98) #[] #[], .func (.func 99) #[] #[.pointer (some ⟨b, 0, none⟩)], .func (.func 100) #[] #[.pointer (some ⟨b, 0, none⟩)]] 105)).drew.alloc (.cells #[.int .i64 5] 3)) := (below_drewN (B1 _) 1).alloc (by show wr.heap.size ≤ (wr.alloc _).heap.size; simp) _
      have C3 := putN1 w2.heap.size u6 (parA p s 5) 5 (wr.heap.size + 1) ((wr.alloc (.cells #[.int .i64 5, .func (.func 97) #[] #[.pointer (some ⟨b, 0, none⟩), .pointer (some ⟨(b + 1), 0, none⟩), .pointer (some ⟨(b + 2), 0, none⟩)], .func (.func 98) #[] #[], .func (.func 99) #[] #[.pointer (some ⟨b, 0, none⟩)], .func (.func 100) #[] #[.pointer (some ⟨b, 0, none⟩)]] 105)).drew.alloc (.cells #[.int .i64 5] 3)) (H0.out.2.2.2.2.2.2.2.2 _ (HK.out.2.1.trans (BA.mono HK.out.2.1.size))) (owns_below HK.out.1.own BA) (Nat.le_trans HK.out.1.bel.size BA.size) (by have := H0.out.2.2.2.2.2.2.1 5 (by decide); omega) (by decide) (by decide) (cell_new (t := 3) (newAt1 _ _ _ (by show (wr.alloc _).heap.size = _; simp)))
      have gB : ((wr.alloc (.cells #[.int .i64 5, .func (.func 97) #[] #[.pointer (some ⟨b, 0, none⟩), .pointer (some ⟨(b + 1), 0, none⟩), .pointer (some ⟨(b + 2), 0, none⟩)], .func (.func 98) #[] #[], .func (.func 99) #[] #[.pointer (some ⟨b, 0, none⟩)], .func (.func 100) #[] #[.pointer (some ⟨b, 0, none⟩)]] 105)).drew.alloc (.cells #[.int .i64 5] 3)).heap[wr.heap.size]? = some (.cells #[.int .i64 5, .func (.func 97) #[] #[.pointer (some ⟨b, 0, none⟩), .pointer (some ⟨(b + 1), 0, none⟩), .pointer (some ⟨(b + 2), 0, none⟩)], .func (.func 98) #[] #[], .func (.func 99) #[] #[.pointer (some ⟨b, 0, none⟩)], .func (.func 100) #[] #[.pointer (some ⟨b, 0, none⟩)]] 105) := (Below.heap_alloc _ _ _ (by show wr.heap.size < (wr.alloc _).heap.size; simp)).trans (heap_alloc_new wr (.cells #[.int .i64 5, .func (.func 97) #[] #[.pointer (some ⟨b, 0, none⟩), .pointer (some ⟨(b + 1), 0, none⟩), .pointer (some ⟨(b + 2), 0, none⟩)], .func (.func 98) #[] #[], .func (.func 99) #[] #[.pointer (some ⟨b, 0, none⟩)], .func (.func 100) #[] #[.pointer (some ⟨b, 0, none⟩)]] 105))
      have HV : Hid _ := And.intro CT (And.intro C3 (And.intro BA (And.intro gB (And.intro h0 (And.intro l0 (And.intro m0 (And.intro cx lx)))))))
      clear CT C3 BA gB hc hz B1 cx h0 u0 l0 g0 m0 h1 u1 l1 g1 m1 h2 u2 l2 g2 m2
      go_wp2_with (go_at_call 98; refine HV.out.1.mono ?_; rintro e w3 ⟨rfl, hw⟩; subst w3)
      have tok1 : True := trivial
      have tok2 : True := trivial
      have cA0 : (wr.alloc (.cells #[.int .i64 5, .func (.func 97) #[] #[.pointer (some ⟨b, 0, none⟩), .pointer (some ⟨(b + 1), 0, none⟩), .pointer (some ⟨(b + 2), 0, none⟩)], .func (.func 98) #[] #[], .func (.func 99) #[] #[.pointer (some ⟨b, 0, none⟩)], .func (.func 100) #[] #[.pointer (some ⟨b, 0, none⟩)]] 105)).cell? ⟨wr.heap.size, 0, none⟩ = some (.int .i64 5) := by rw [bk_cell (heap_alloc_new wr (.cells #[.int .i64 5, .func (.func 97) #[] #[.pointer (some ⟨b, 0, none⟩), .pointer (some ⟨(b + 1), 0, none⟩), .pointer (some ⟨(b + 2), 0, none⟩)], .func (.func 98) #[] #[], .func (.func 99) #[] #[.pointer (some ⟨b, 0, none⟩)], .func (.func 100) #[] #[.pointer (some ⟨b, 0, none⟩)]] 105))]; rfl
      have cA3 : (wr.alloc (.cells #[.int .i64 5, .func (.func 97) #[] #[.pointer (some ⟨b, 0, none⟩), .pointer (some ⟨(b + 1), 0, none⟩), .pointer (some ⟨(b + 2), 0, none⟩)], .func (.func 98) #[] #[], .func (.func 99) #[] #[.pointer (some ⟨b, 0, none⟩)], .func (.func 100) #[] #[.pointer (some ⟨b, 0, none⟩)]] 105)).cell? ⟨wr.heap.size, 3, none⟩ = some (.func (.func 99) #[] #[.pointer (some ⟨b, 0, none⟩)]) := by rw [bk_cell (heap_alloc_new wr (.cells #[.int .i64 5, .func (.func 97) #[] #[.pointer (some ⟨b, 0, none⟩), .pointer (some ⟨(b + 1), 0, none⟩), .pointer (some ⟨(b + 2), 0, none⟩)], .func (.func 98) #[] #[], .func (.func 99) #[] #[.pointer (some ⟨b, 0, none⟩)], .func (.func 100) #[] #[.pointer (some ⟨b, 0, none⟩)]] 105))]; rfl
      go_upto_region 8 with fail
      go_region_held3 (fun w' => w'.cell? ⟨wr.heap.size, 0, none⟩ = some (.int .i64 5) ∧ w'.cell? ⟨wr.heap.size, 3, none⟩ = some (.func (.func 99) #[] #[.pointer (some ⟨b, 0, none⟩)])) (go_keep)
        (first
        | (go_at_call 75; have _t := tok1; refine HV.out.2.1.mono ?_; rintro e w3 ⟨r3, rfl, o3, G3⟩; have k3 := G3.chg.block wr.heap.size (Array.getElem?_eq_some_iff.1 HV.out.2.2.2.1).1 (fun e => by have := (HK.out.1.own.lt _ e).2; omega); have c30 : w3.cell? ⟨wr.heap.size, 0, none⟩ = some (.int .i64 5) := (by rw [bk_cell (k3.trans HV.out.2.2.2.1)]; rfl); have c33 : w3.cell? ⟨wr.heap.size, 3, none⟩ = some (.func (.func 99) #[] #[.pointer (some ⟨b, 0, none⟩)]) := (by rw [bk_cell (k3.trans HV.out.2.2.2.1)]; rfl); have H3 : Hid _ := And.intro o3 (And.intro G3 (And.intro (k3.trans HV.out.2.2.2.1) ((HK.out.1.bel.trans (HV.out.2.2.1.mono HK.out.1.bel.size)).trans (G3.below (owns_below HK.out.1.own HV.out.2.2.1) (Nat.le_trans HK.out.1.bel.size HV.out.2.2.1.size))))); clear o3 G3 k3 tok1)
        | (go_at_call 99; have _t := tok2; have kb : w3.cell? ⟨b, 0, none⟩ = wr.cell? ⟨b, 0, none⟩ := keep_cell H3.out.2.1 HV.out.2.2.1 HK.out.1.own HV.out.2.2.2.2.2.2.1 HV.out.2.2.2.2.2.1; have kg : w3.cell? ⟨w.heap.size, 3, none⟩ = wr.cell? ⟨w.heap.size, 3, none⟩ := keep_cell H3.out.2.1 HV.out.2.2.1 HK.out.1.own (by omega) lx; refine (numVal b w.heap.size 3 p.a3 w3 (H0.out.2.2.2.2.2.2.2.2 _ (H2.out.2.1.trans (H3.out.2.2.2.mono H2.out.2.1.size))) (by have := HQ.out.2.2.2.1; omega) (by have := HQ.out.2.2.2.1; omega) (kb.trans HV.out.2.2.2.2.1) (kg.trans HV.out.2.2.2.2.2.2.2.1)).mono ?_; rintro e w4 ⟨r4, rfl, o4, b4⟩; obtain ⟨a4, q4, er⟩ := (row_of_owns o4).form; subst er; have c40 : w4.cell? ⟨wr.heap.size, 0, none⟩ = some (.int .i64 5) := (by rw [bk_cell ((b4.block wr.heap.size (Array.getElem?_eq_some_iff.1 H3.out.2.2.1).1).trans H3.out.2.2.1)]; rfl); have c43 : w4.cell? ⟨wr.heap.size, 3, none⟩ = some (.func (.func 99) #[] #[.pointer (some ⟨b, 0, none⟩)]) := (by rw [bk_cell ((b4.block wr.heap.size (Array.getElem?_eq_some_iff.1 H3.out.2.2.1).1).trans H3.out.2.2.1)]; rfl); have H4 : Hid _ := And.intro b4 (And.intro (row_of_owns o4) (fun (hx : (putv p.a3) ≠ []) k (e : Value.ownBlock _ = some k) => (o4.lt k e).1)); clear o4 b4 kb kg tok2)
        | (go_at_call 53; have al4 : Below w4.heap.size w4 (w4.alloc (.cells #[.slice a4 (putv p.a3).length q4] 22)) := (Below.refl _ _).alloc (Nat.le_refl _) _; have B34 : Below w3.heap.size w3 (w4.alloc (.cells #[.slice a4 (putv p.a3).length q4] 22)) := H4.out.1.trans (al4.mono H4.out.1.size); refine (putC1 w2.heap.size r3 (.slice a4 (putv p.a3).length q4) (parA p s 5 ++ putv 5) (putv p.a3) w4.heap.size (w4.alloc (.cells #[.slice a4 (putv p.a3).length q4] 22)) (H0.out.2.2.2.2.2.2.2.2 _ ((H2.out.2.1.trans (H3.out.2.2.2.mono H2.out.2.1.size)).trans (B34.mono (Nat.le_trans H2.out.2.1.size H3.out.2.2.2.size)))) (owns_below H3.out.1 B34) (H4.out.2.1.below al4) (fun hx k h h2 => by have := H4.out.2.2 hx k h; have := (H3.out.1.lt k h2).2; omega) (Nat.le_trans H3.out.2.2.2.size B34.size) (by have := H0.out.2.2.2.2.2.2.1 5 (by decide); have := putv_le 5 (by decide) (by decide); rw [List.length_append]; omega) (by have := putv_le p.a3 (by have := HQ.out.2.2.2.1; omega) (by have := HQ.out.2.2.2.1; omega); omega) (laid1 _ _ _)).mono ?_; rintro e w5 ⟨r5, rfl, o5, G5⟩; have k5 := (G5.chg.block wr.heap.size (Nat.lt_of_lt_of_le (Array.getElem?_eq_some_iff.1 H3.out.2.2.1).1 B34.size) (fun e => (H3.out.2.1.loc _ e).elim (fun q => by have := (HK.out.1.own.lt _ q).2; omega) (fun q => by have := (Array.getElem?_eq_some_iff.1 HV.out.2.2.2.1).1; omega))).trans ((B34.block wr.heap.size (Array.getElem?_eq_some_iff.1 H3.out.2.2.1).1).trans H3.out.2.2.1); have c50 : w5.cell? ⟨wr.heap.size, 0, none⟩ = some (.int .i64 5) := (by rw [bk_cell k5]; rfl); have c53 : w5.cell? ⟨wr.heap.size, 3, none⟩ = some (.func (.func 99) #[] #[.pointer (some ⟨b, 0, none⟩)]) := (by rw [bk_cell k5]; rfl); clear k5; have H5 : Hid _ := And.intro o5 (And.intro G5 B34); clear o5 G5 al4 B34))
      all_goals
        have K1 : Hid (OutK w2 w5 r5 p s 6) := HK.out.1.told (k := 5) (num := 5) (ys := putv p.a3) (by decide) HV.out.2.2.1 H3.out.2.1 H5.out.2.2 H5.out.2.1 H5.out.1 (rfl)
        go_wp2_with fail
        go_roundg (13 - (5 + 1))
        case measure => omega
        case rel => exact ⟨6, by omega, rfl, by go_num, K1.out⟩
    · obtain ⟨cs, ⟨hz, hc⟩, hE⟩ := H2.out.1.e6
      obtain ⟨b, rfl, g0, u0, m0, g1, u1, m1, g2, u2, m2⟩ := hE
      have h0 := (HK.out.1.bel.cell (p := ⟨b, 0, none⟩) m0).trans g0
      have l0 := Nat.lt_of_lt_of_le m0 HK.out.1.bel.size
      have h1 := (HK.out.1.bel.cell (p := ⟨b + 1, 0, none⟩) m1).trans g1
      have l1 := Nat.lt_of_lt_of_le m1 HK.out.1.bel.size
      have h2 := (HK.out.1.bel.cell (p := ⟨b + 2, 0, none⟩) m2).trans g2
      have l2 := Nat.lt_of_lt_of_le m2 HK.out.1.bel.size
      have ht : T < w2.heap.size := H2.out.1.lt.2
      have t0 : wr.cell? ⟨T, 30, none⟩ = some (.int .i64 8) := (HK.out.1.bel.cell (p := ⟨T, 30, none⟩) ht).trans (hc 0 (by decide))
      have t1 : wr.cell? ⟨T, 31, none⟩ = some (.func (.func 97) #[] #[.pointer (some ⟨b, 0, none⟩), .pointer (some ⟨(b + 1), 0, none⟩), .pointer (some ⟨(b + 2), 0, none⟩)]) := (HK.out.1.bel.cell (p := ⟨T, 31, none⟩) ht).trans (hc 1 (by decide))
      have t2 : wr.cell? ⟨T, 32, none⟩ = some (.func (.func 98) #[] #[]) := (HK.out.1.bel.cell (p := ⟨T, 32, none⟩) ht).trans (hc 2 (by decide))
      have t3 : wr.cell? ⟨T, 33, none⟩ = some (.func (.func 99) #[] #[.pointer (some ⟨b, 0, none⟩)]) := (HK.out.1.bel.cell (p := ⟨T, 33, none⟩) ht).trans (hc 3 (by decide))
      have t4 : wr.cell? ⟨T, 34, none⟩ = some (.func (.func 100) #[] #[.pointer (some ⟨b, 0, none⟩)]) := (HK.out.1.bel.cell (p := ⟨T, 34, none⟩) ht).trans (hc 4 (by decide))
      have cx : wr.cell? ⟨w.heap.size, 4, none⟩ = some (.int .i64 p.a4) := by rw [bk_cell HK.out.2.2]; rfl
      have lx : w.heap.size < wr.heap.size := (Array.getElem?_eq_some_iff.1 HK.out.2.2).1
      have B1 : ∀ o, Below wr.heap.size wr (wr.alloc o) := fun o => (Below.refl _ _).alloc (Nat.le_refl _) o
      have CT := alwaysC (wr.alloc (.cells #[.int .i64 8, .func (.func 97) #[] #[.pointer (some ⟨b, 0, none⟩), .pointer (some ⟨(b + 1), 0, none⟩), .pointer (some ⟨(b + 2), 0, none⟩)], .func (.func 98) #[] #[], .func (.func 99) #[] #[.pointer (some ⟨b, 0, none⟩)], .func (.func 100) #[] #[.pointer (some ⟨b, 0, none⟩)]] 105))
      have BA : Below wr.heap.size wr ((wr.alloc (.cells #[.int .i64 8, .func (.func 97) #[] #[.pointer (some ⟨b, 0, none⟩), .pointer (some ⟨(b + 1), 0, none⟩), .pointer (some ⟨(b + 2), 0, none⟩)], .func (.func 98) #[] #[], .func (.func 99) #[] #[.pointer (some ⟨b, 0, none⟩)], .func (.func 100) #[] #[.pointer (some ⟨b, 0, none⟩)]] 105)).drew.alloc (.cells #[.int .i64 8] 3)) := (below_drewN (B1 _) 1).alloc (by show wr.heap.size ≤ (wr.alloc _).heap.size; simp) _
      have C3 := putN1 w2.heap.size u6 (parA p s 6) 8 (wr.heap.size + 1) ((wr.alloc (.cells #[.int .i64 8, .func (.func 97) #[] #[.pointer (some ⟨b, 0, none⟩), .pointer (some ⟨(b + 1), 0, none⟩), .pointer (some ⟨(b + 2), 0, none⟩)], .func (.func 98) #[] #[], .func (.func 99) #[] #[.pointer (some ⟨b, 0, none⟩)], .func (.func 100) #[] #[.pointer (some ⟨b, 0, none⟩)]] 105)).drew.alloc (.cells #[.int .i64 8] 3)) (H0.out.2.2.2.2.2.2.2.2 _ (HK.out.2.1.trans (BA.mono HK.out.2.1.size))) (owns_below HK.out.1.own BA) (Nat.le_trans HK.out.1.bel.size BA.size) (by have := H0.out.2.2.2.2.2.2.1 6 (by decide); omega) (by decide) (by decide) (cell_new (t := 3) (newAt1 _ _ _ (by show (wr.alloc _).heap.size = _; simp)))
      have gB : ((wr.alloc (.cells #[.int .i64 8, .func (.func 97) #[] #[.pointer (some ⟨b, 0, none⟩), .pointer (some ⟨(b + 1), 0, none⟩), .pointer (some ⟨(b + 2), 0, none⟩)], .func (.func 98) #[] #[], .func (.func 99) #[] #[.pointer (some ⟨b, 0, none⟩)], .func (.func 100) #[] #[.pointer (some ⟨b, 0, none⟩)]] 105)).drew.alloc (.cells #[.int .i64 8] 3)).heap[wr.heap.size]? = some (.cells #[.int .i64 8, .func (.func 97) #[] #[.pointer (some ⟨b, 0, none⟩), .pointer (some ⟨(b + 1), 0, none⟩), .pointer (some ⟨(b + 2), 0, none⟩)], .func (.func 98) #[] #[], .func (.func 99) #[] #[.pointer (some ⟨b, 0, none⟩)], .func (.func 100) #[] #[.pointer (some ⟨b, 0, none⟩)]] 105) := (Below.heap_alloc _ _ _ (by show wr.heap.size < (wr.alloc _).heap.size; simp)).trans (heap_alloc_new wr (.cells #[.int .i64 8, .func (.func 97) #[] #[.pointer (some ⟨b, 0, none⟩), .pointer (some ⟨(b + 1), 0, none⟩), .pointer (some ⟨(b + 2), 0, none⟩)], .func (.func 98) #[] #[], .func (.func 99) #[] #[.pointer (some ⟨b, 0, none⟩)], .func (.func 100) #[] #[.pointer (some ⟨b, 0, none⟩)]] 105))
      have HV : Hid _ := And.intro CT (And.intro C3 (And.intro BA (And.intro gB (And.intro h0 (And.intro l0 (And.intro m0 (And.intro cx lx)))))))
      clear CT C3 BA gB hc hz B1 cx h0 u0 l0 g0 m0 h1 u1 l1 g1 m1 h2 u2 l2 g2 m2
      go_wp2_with (go_at_call 98; refine HV.out.1.mono ?_; rintro e w3 ⟨rfl, hw⟩; subst w3)
      have tok1 : True := trivial
      have tok2 : True := trivial
      have cA0 : (wr.alloc (.cells #[.int .i64 8, .func (.func 97) #[] #[.pointer (some ⟨b, 0, none⟩), .pointer (some ⟨(b + 1), 0, none⟩), .pointer (some ⟨(b + 2), 0, none⟩)], .func (.func 98) #[] #[], .func (.func 99) #[] #[.pointer (some ⟨b, 0, none⟩)], .func (.func 100) #[] #[.pointer (some ⟨b, 0, none⟩)]] 105)).cell? ⟨wr.heap.size, 0, none⟩ = some (.int .i64 8) := by rw [bk_cell (heap_alloc_new wr (.cells #[.int .i64 8, .func (.func 97) #[] #[.pointer (some ⟨b, 0, none⟩), .pointer (some ⟨(b + 1), 0, none⟩), .pointer (some ⟨(b + 2), 0, none⟩)], .func (.func 98) #[] #[], .func (.func 99) #[] #[.pointer (some ⟨b, 0, none⟩)], .func (.func 100) #[] #[.pointer (some ⟨b, 0, none⟩)]] 105))]; rfl
      have cA3 : (wr.alloc (.cells #[.int .i64 8, .func (.func 97) #[] #[.pointer (some ⟨b, 0, none⟩), .pointer (some ⟨(b + 1), 0, none⟩), .pointer (some ⟨(b + 2), 0, none⟩)], .func (.func 98) #[] #[], .func (.func 99) #[] #[.pointer (some ⟨b, 0, none⟩)], .func (.func 100) #[] #[.pointer (some ⟨b, 0, none⟩)]] 105)).cell? ⟨wr.heap.size, 3, none⟩ = some (.func (.func 99) #[] #[.pointer (some ⟨b, 0, none⟩)]) := by rw [bk_cell (heap_alloc_new wr (.cells #[.int .i64 8, .func (.func 97) #[] #[.pointer (some ⟨b, 0, none⟩), .pointer (some ⟨(b + 1), 0, none⟩), .pointer (some ⟨(b + 2), 0, none⟩)], .func (.func 98) #[] #[], .func (.func 99) #[] #[.pointer (some ⟨b, 0, none⟩)], .func (.func 100) #[] #[.pointer (some ⟨b, 0, none⟩)]] 105))]; rfl
      go_upto_region 8 with fail
      go_region_held3 (fun w' => w'.cell? ⟨wr.heap.size, 0, none⟩ = some (.int .i64 8) ∧ w'.cell? ⟨wr.heap.size, 3, none⟩ = some (.func (.func 99) #[] #[.pointer (some ⟨b, 0, none⟩)])) (go_keep)
        (first
        | (go_at_call 75; have _t := tok1; refine HV.out.2.1.mono ?_; rintro e w3 ⟨r3, rfl, o3, G3⟩; have k3 := G3.chg.block wr.heap.size (Array.getElem?_eq_some_iff.1 HV.out.2.2.2.1).1 (fun e => by have := (HK.out.1.own.lt _ e).2; omega); have c30 : w3.cell? ⟨wr.heap.size, 0, none⟩ = some (.int .i64 8) := (by rw [bk_cell (k3.trans HV.out.2.2.2.1)]; rfl); have c33 : w3.cell? ⟨wr.heap.size, 3, none⟩ = some (.func (.func 99) #[] #[.pointer (some ⟨b, 0, none⟩)]) := (by rw [bk_cell (k3.trans HV.out.2.2.2.1)]; rfl); have H3 : Hid _ := And.intro o3 (And.intro G3 (And.intro (k3.trans HV.out.2.2.2.1) ((HK.out.1.bel.trans (HV.out.2.2.1.mono HK.out.1.bel.size)).trans (G3.below (owns_below HK.out.1.own HV.out.2.2.1) (Nat.le_trans HK.out.1.bel.size HV.out.2.2.1.size))))); clear o3 G3 k3 tok1)
        | (go_at_call 99; have _t := tok2; have kb : w3.cell? ⟨b, 0, none⟩ = wr.cell? ⟨b, 0, none⟩ := keep_cell H3.out.2.1 HV.out.2.2.1 HK.out.1.own HV.out.2.2.2.2.2.2.1 HV.out.2.2.2.2.2.1; have kg : w3.cell? ⟨w.heap.size, 4, none⟩ = wr.cell? ⟨w.heap.size, 4, none⟩ := keep_cell H3.out.2.1 HV.out.2.2.1 HK.out.1.own (by omega) lx; refine (numVal b w.heap.size 4 p.a4 w3 (H0.out.2.2.2.2.2.2.2.2 _ (H2.out.2.1.trans (H3.out.2.2.2.mono H2.out.2.1.size))) (by have := HQ.out.2.2.2.2.1; omega) (by have := HQ.out.2.2.2.2.1; omega) (kb.trans HV.out.2.2.2.2.1) (kg.trans HV.out.2.2.2.2.2.2.2.1)).mono ?_; rintro e w4 ⟨r4, rfl, o4, b4⟩; obtain ⟨a4, q4, er⟩ := (row_of_owns o4).form; subst er; have c40 : w4.cell? ⟨wr.heap.size, 0, none⟩ = some (.int .i64 8) := (by rw [bk_cell ((b4.block wr.heap.size (Array.getElem?_eq_some_iff.1 H3.out.2.2.1).1).trans H3.out.2.2.1)]; rfl); have c43 : w4.cell? ⟨wr.heap.size, 3, none⟩ = some (.func (.func 99) #[] #[.pointer (some ⟨b, 0, none⟩)]) := (by rw [bk_cell ((b4.block wr.heap.size (Array.getElem?_eq_some_iff.1 H3.out.2.2.1).1).trans H3.out.2.2.1)]; rfl); have H4 : Hid _ := And.intro b4 (And.intro (row_of_owns o4) (fun (hx : (putv p.a4) ≠ []) k (e : Value.ownBlock _ = some k) => (o4.lt k e).1)); clear o4 b4 kb kg tok2)
        | (go_at_call 53; have al4 : Below w4.heap.size w4 (w4.alloc (.cells #[.slice a4 (putv p.a4).length q4] 22)) := (Below.refl _ _).alloc (Nat.le_refl _) _; have B34 : Below w3.heap.size w3 (w4.alloc (.cells #[.slice a4 (putv p.a4).length q4] 22)) := H4.out.1.trans (al4.mono H4.out.1.size); refine (putC1 w2.heap.size r3 (.slice a4 (putv p.a4).length q4) (parA p s 6 ++ putv 8) (putv p.a4) w4.heap.size (w4.alloc (.cells #[.slice a4 (putv p.a4).length q4] 22)) (H0.out.2.2.2.2.2.2.2.2 _ ((H2.out.2.1.trans (H3.out.2.2.2.mono H2.out.2.1.size)).trans (B34.mono (Nat.le_trans H2.out.2.1.size H3.out.2.2.2.size)))) (owns_below H3.out.1 B34) (H4.out.2.1.below al4) (fun hx k h h2 => by have := H4.out.2.2 hx k h; have := (H3.out.1.lt k h2).2; omega) (Nat.le_trans H3.out.2.2.2.size B34.size) (by have := H0.out.2.2.2.2.2.2.1 6 (by decide); have := putv_le 8 (by decide) (by decide); rw [List.length_append]; omega) (by have := putv_le p.a4 (by have := HQ.out.2.2.2.2.1; omega) (by have := HQ.out.2.2.2.2.1; omega); omega) (laid1 _ _ _)).mono ?_; rintro e w5 ⟨r5, rfl, o5, G5⟩; have k5 := (G5.chg.block wr.heap.size (Nat.lt_of_lt_of_le (Array.getElem?_eq_some_iff.1 H3.out.2.2.1).1 B34.size) (fun e => (H3.out.2.1.loc _ e).elim (fun q => by have := (HK.out.1.own.lt _ q).2; omega) (fun q => by have := (Array.getElem?_eq_some_iff.1 HV.out.2.2.2.1).1; omega))).trans ((B34.block wr.heap.size (Array.getElem?_eq_some_iff.1 H3.out.2.2.1).1).trans H3.out.2.2.1); have c50 : w5.cell? ⟨wr.heap.size, 0, none⟩ = some (.int .i64 8) := (by rw [bk_cell k5]; rfl); have c53 : w5.cell? ⟨wr.heap.size, 3, none⟩ = some (.func (.func 99) #[] #[.pointer (some ⟨b, 0, none⟩)]) := (by rw [bk_cell k5]; rfl); clear k5; have H5 : Hid _ := And.intro o5 (And.intro G5 B34); clear o5 G5 al4 B34))
      all_goals
        have K1 : Hid (OutK w2 w5 r5 p s 7) := HK.out.1.told (k := 6) (num := 8) (ys := putv p.a4) (by decide) HV.out.2.2.1 H3.out.2.1 H5.out.2.2 H5.out.2.1 H5.out.1 (rfl)
        go_wp2_with fail
        go_roundg (13 - (6 + 1))
        case measure => omega
        case rel => exact ⟨7, by omega, rfl, by go_num, K1.out⟩
    · obtain ⟨cs, ⟨hz, hc⟩, hE⟩ := H2.out.1.e7
      obtain ⟨b, rfl, g0, u0, m0, g1, u1, m1, g2, u2, m2⟩ := hE
      have h0 := (HK.out.1.bel.cell (p := ⟨b, 0, none⟩) m0).trans g0
      have l0 := Nat.lt_of_lt_of_le m0 HK.out.1.bel.size
      have h1 := (HK.out.1.bel.cell (p := ⟨b + 1, 0, none⟩) m1).trans g1
      have l1 := Nat.lt_of_lt_of_le m1 HK.out.1.bel.size
      have h2 := (HK.out.1.bel.cell (p := ⟨b + 2, 0, none⟩) m2).trans g2
      have l2 := Nat.lt_of_lt_of_le m2 HK.out.1.bel.size
      have ht : T < w2.heap.size := H2.out.1.lt.2
      have t0 : wr.cell? ⟨T, 35, none⟩ = some (.int .i64 9) := (HK.out.1.bel.cell (p := ⟨T, 35, none⟩) ht).trans (hc 0 (by decide))
      have t1 : wr.cell? ⟨T, 36, none⟩ = some (.func (.func 97) #[] #[.pointer (some ⟨b, 0, none⟩), .pointer (some ⟨(b + 1), 0, none⟩), .pointer (some ⟨(b + 2), 0, none⟩)]) := (HK.out.1.bel.cell (p := ⟨T, 36, none⟩) ht).trans (hc 1 (by decide))
      have t2 : wr.cell? ⟨T, 37, none⟩ = some (.func (.func 98) #[] #[]) := (HK.out.1.bel.cell (p := ⟨T, 37, none⟩) ht).trans (hc 2 (by decide))
      have t3 : wr.cell? ⟨T, 38, none⟩ = some (.func (.func 99) #[] #[.pointer (some ⟨b, 0, none⟩)]) := (HK.out.1.bel.cell (p := ⟨T, 38, none⟩) ht).trans (hc 3 (by decide))
      have t4 : wr.cell? ⟨T, 39, none⟩ = some (.func (.func 100) #[] #[.pointer (some ⟨b, 0, none⟩)]) := (HK.out.1.bel.cell (p := ⟨T, 39, none⟩) ht).trans (hc 4 (by decide))
      have cx : wr.cell? ⟨w.heap.size, 5, none⟩ = some (.int .i64 p.a5) := by rw [bk_cell HK.out.2.2]; rfl
      have lx : w.heap.size < wr.heap.size := (Array.getElem?_eq_some_iff.1 HK.out.2.2).1
      have B1 : ∀ o, Below wr.heap.size wr (wr.alloc o) := fun o => (Below.refl _ _).alloc (Nat.le_refl _) o
      have CT := alwaysC (wr.alloc (.cells #[.int .i64 9, .func (.func 97) #[] #[.pointer (some ⟨b, 0, none⟩), .pointer (some ⟨(b + 1), 0, none⟩), .pointer (some ⟨(b + 2), 0, none⟩)], .func (.func 98) #[] #[], .func (.func 99) #[] #[.pointer (some ⟨b, 0, none⟩)], .func (.func 100) #[] #[.pointer (some ⟨b, 0, none⟩)]] 105))
      have BA : Below wr.heap.size wr ((wr.alloc (.cells #[.int .i64 9, .func (.func 97) #[] #[.pointer (some ⟨b, 0, none⟩), .pointer (some ⟨(b + 1), 0, none⟩), .pointer (some ⟨(b + 2), 0, none⟩)], .func (.func 98) #[] #[], .func (.func 99) #[] #[.pointer (some ⟨b, 0, none⟩)], .func (.func 100) #[] #[.pointer (some ⟨b, 0, none⟩)]] 105)).drew.alloc (.cells #[.int .i64 9] 3)) := (below_drewN (B1 _) 1).alloc (by show wr.heap.size ≤ (wr.alloc _).heap.size; simp) _
      have C3 := putN1 w2.heap.size u6 (parA p s 7) 9 (wr.heap.size + 1) ((wr.alloc (.cells #[.int .i64 9, .func (.func 97) #[] #[.pointer (some ⟨b, 0, none⟩), .pointer (some ⟨(b + 1), 0, none⟩), .pointer (some ⟨(b + 2), 0, none⟩)], .func (.func 98) #[] #[], .func (.func 99) #[] #[.pointer (some ⟨b, 0, none⟩)], .func (.func 100) #[] #[.pointer (some ⟨b, 0, none⟩)]] 105)).drew.alloc (.cells #[.int .i64 9] 3)) (H0.out.2.2.2.2.2.2.2.2 _ (HK.out.2.1.trans (BA.mono HK.out.2.1.size))) (owns_below HK.out.1.own BA) (Nat.le_trans HK.out.1.bel.size BA.size) (by have := H0.out.2.2.2.2.2.2.1 7 (by decide); omega) (by decide) (by decide) (cell_new (t := 3) (newAt1 _ _ _ (by show (wr.alloc _).heap.size = _; simp)))
      have gB : ((wr.alloc (.cells #[.int .i64 9, .func (.func 97) #[] #[.pointer (some ⟨b, 0, none⟩), .pointer (some ⟨(b + 1), 0, none⟩), .pointer (some ⟨(b + 2), 0, none⟩)], .func (.func 98) #[] #[], .func (.func 99) #[] #[.pointer (some ⟨b, 0, none⟩)], .func (.func 100) #[] #[.pointer (some ⟨b, 0, none⟩)]] 105)).drew.alloc (.cells #[.int .i64 9] 3)).heap[wr.heap.size]? = some (.cells #[.int .i64 9, .func (.func 97) #[] #[.pointer (some ⟨b, 0, none⟩), .pointer (some ⟨(b + 1), 0, none⟩), .pointer (some ⟨(b + 2), 0, none⟩)], .func (.func 98) #[] #[], .func (.func 99) #[] #[.pointer (some ⟨b, 0, none⟩)], .func (.func 100) #[] #[.pointer (some ⟨b, 0, none⟩)]] 105) := (Below.heap_alloc _ _ _ (by show wr.heap.size < (wr.alloc _).heap.size; simp)).trans (heap_alloc_new wr (.cells #[.int .i64 9, .func (.func 97) #[] #[.pointer (some ⟨b, 0, none⟩), .pointer (some ⟨(b + 1), 0, none⟩), .pointer (some ⟨(b + 2), 0, none⟩)], .func (.func 98) #[] #[], .func (.func 99) #[] #[.pointer (some ⟨b, 0, none⟩)], .func (.func 100) #[] #[.pointer (some ⟨b, 0, none⟩)]] 105))
      have HV : Hid _ := And.intro CT (And.intro C3 (And.intro BA (And.intro gB (And.intro h0 (And.intro l0 (And.intro m0 (And.intro cx lx)))))))
      clear CT C3 BA gB hc hz B1 cx h0 u0 l0 g0 m0 h1 u1 l1 g1 m1 h2 u2 l2 g2 m2
      go_wp2_with (go_at_call 98; refine HV.out.1.mono ?_; rintro e w3 ⟨rfl, hw⟩; subst w3)
      have tok1 : True := trivial
      have tok2 : True := trivial
      have cA0 : (wr.alloc (.cells #[.int .i64 9, .func (.func 97) #[] #[.pointer (some ⟨b, 0, none⟩), .pointer (some ⟨(b + 1), 0, none⟩), .pointer (some ⟨(b + 2), 0, none⟩)], .func (.func 98) #[] #[], .func (.func 99) #[] #[.pointer (some ⟨b, 0, none⟩)], .func (.func 100) #[] #[.pointer (some ⟨b, 0, none⟩)]] 105)).cell? ⟨wr.heap.size, 0, none⟩ = some (.int .i64 9) := by rw [bk_cell (heap_alloc_new wr (.cells #[.int .i64 9, .func (.func 97) #[] #[.pointer (some ⟨b, 0, none⟩), .pointer (some ⟨(b + 1), 0, none⟩), .pointer (some ⟨(b + 2), 0, none⟩)], .func (.func 98) #[] #[], .func (.func 99) #[] #[.pointer (some ⟨b, 0, none⟩)], .func (.func 100) #[] #[.pointer (some ⟨b, 0, none⟩)]] 105))]; rfl
      have cA3 : (wr.alloc (.cells #[.int .i64 9, .func (.func 97) #[] #[.pointer (some ⟨b, 0, none⟩), .pointer (some ⟨(b + 1), 0, none⟩), .pointer (some ⟨(b + 2), 0, none⟩)], .func (.func 98) #[] #[], .func (.func 99) #[] #[.pointer (some ⟨b, 0, none⟩)], .func (.func 100) #[] #[.pointer (some ⟨b, 0, none⟩)]] 105)).cell? ⟨wr.heap.size, 3, none⟩ = some (.func (.func 99) #[] #[.pointer (some ⟨b, 0, none⟩)]) := by rw [bk_cell (heap_alloc_new wr (.cells #[.int .i64 9, .func (.func 97) #[] #[.pointer (some ⟨b, 0, none⟩), .pointer (some ⟨(b + 1), 0, none⟩), .pointer (some ⟨(b + 2), 0, none⟩)], .func (.func 98) #[] #[], .func (.func 99) #[] #[.pointer (some ⟨b, 0, none⟩)], .func (.func 100) #[] #[.pointer (some ⟨b, 0, none⟩)]] 105))]; rfl
      go_upto_region 8 with fail
      go_region_held3 (fun w' => w'.cell? ⟨wr.heap.size, 0, none⟩ = some (.int .i64 9) ∧ w'.cell? ⟨wr.heap.size, 3, none⟩ = some (.func (.func 99) #[] #[.pointer (some ⟨b, 0, none⟩)])) (go_keep)
        (first
        | (go_at_call 75; have _t := tok1; refine HV.out.2.1.mono ?_; rintro e w3 ⟨r3, rfl, o3, G3⟩; have k3 := G3.chg.block wr.heap.size (Array.getElem?_eq_some_iff.1 HV.out.2.2.2.1).1 (fun e => by have := (HK.out.1.own.lt _ e).2; omega); have c30 : w3.cell? ⟨wr.heap.size, 0, none⟩ = some (.int .i64 9) := (by rw [bk_cell (k3.trans HV.out.2.2.2.1)]; rfl); have c33 : w3.cell? ⟨wr.heap.size, 3, none⟩ = some (.func (.func 99) #[] #[.pointer (some ⟨b, 0, none⟩)]) := (by rw [bk_cell (k3.trans HV.out.2.2.2.1)]; rfl); have H3 : Hid _ := And.intro o3 (And.intro G3 (And.intro (k3.trans HV.out.2.2.2.1) ((HK.out.1.bel.trans (HV.out.2.2.1.mono HK.out.1.bel.size)).trans (G3.below (owns_below HK.out.1.own HV.out.2.2.1) (Nat.le_trans HK.out.1.bel.size HV.out.2.2.1.size))))); clear o3 G3 k3 tok1)
        | (go_at_call 99; have _t := tok2; have kb : w3.cell? ⟨b, 0, none⟩ = wr.cell? ⟨b, 0, none⟩ := keep_cell H3.out.2.1 HV.out.2.2.1 HK.out.1.own HV.out.2.2.2.2.2.2.1 HV.out.2.2.2.2.2.1; have kg : w3.cell? ⟨w.heap.size, 5, none⟩ = wr.cell? ⟨w.heap.size, 5, none⟩ := keep_cell H3.out.2.1 HV.out.2.2.1 HK.out.1.own (by omega) lx; refine (numVal b w.heap.size 5 p.a5 w3 (H0.out.2.2.2.2.2.2.2.2 _ (H2.out.2.1.trans (H3.out.2.2.2.mono H2.out.2.1.size))) (by have := HQ.out.2.2.2.2.2.1; omega) (by have := HQ.out.2.2.2.2.2.1; omega) (kb.trans HV.out.2.2.2.2.1) (kg.trans HV.out.2.2.2.2.2.2.2.1)).mono ?_; rintro e w4 ⟨r4, rfl, o4, b4⟩; obtain ⟨a4, q4, er⟩ := (row_of_owns o4).form; subst er; have c40 : w4.cell? ⟨wr.heap.size, 0, none⟩ = some (.int .i64 9) := (by rw [bk_cell ((b4.block wr.heap.size (Array.getElem?_eq_some_iff.1 H3.out.2.2.1).1).trans H3.out.2.2.1)]; rfl); have c43 : w4.cell? ⟨wr.heap.size, 3, none⟩ = some (.func (.func 99) #[] #[.pointer (some ⟨b, 0, none⟩)]) := (by rw [bk_cell ((b4.block wr.heap.size (Array.getElem?_eq_some_iff.1 H3.out.2.2.1).1).trans H3.out.2.2.1)]; rfl); have H4 : Hid _ := And.intro b4 (And.intro (row_of_owns o4) (fun (hx : (putv p.a5) ≠ []) k (e : Value.ownBlock _ = some k) => (o4.lt k e).1)); clear o4 b4 kb kg tok2)
        | (go_at_call 53; have al4 : Below w4.heap.size w4 (w4.alloc (.cells #[.slice a4 (putv p.a5).length q4] 22)) := (Below.refl _ _).alloc (Nat.le_refl _) _; have B34 : Below w3.heap.size w3 (w4.alloc (.cells #[.slice a4 (putv p.a5).length q4] 22)) := H4.out.1.trans (al4.mono H4.out.1.size); refine (putC1 w2.heap.size r3 (.slice a4 (putv p.a5).length q4) (parA p s 7 ++ putv 9) (putv p.a5) w4.heap.size (w4.alloc (.cells #[.slice a4 (putv p.a5).length q4] 22)) (H0.out.2.2.2.2.2.2.2.2 _ ((H2.out.2.1.trans (H3.out.2.2.2.mono H2.out.2.1.size)).trans (B34.mono (Nat.le_trans H2.out.2.1.size H3.out.2.2.2.size)))) (owns_below H3.out.1 B34) (H4.out.2.1.below al4) (fun hx k h h2 => by have := H4.out.2.2 hx k h; have := (H3.out.1.lt k h2).2; omega) (Nat.le_trans H3.out.2.2.2.size B34.size) (by have := H0.out.2.2.2.2.2.2.1 7 (by decide); have := putv_le 9 (by decide) (by decide); rw [List.length_append]; omega) (by have := putv_le p.a5 (by have := HQ.out.2.2.2.2.2.1; omega) (by have := HQ.out.2.2.2.2.2.1; omega); omega) (laid1 _ _ _)).mono ?_; rintro e w5 ⟨r5, rfl, o5, G5⟩; have k5 := (G5.chg.block wr.heap.size (Nat.lt_of_lt_of_le (Array.getElem?_eq_some_iff.1 H3.out.2.2.1).1 B34.size) (fun e => (H3.out.2.1.loc _ e).elim (fun q => by have := (HK.out.1.own.lt _ q).2; omega) (fun q => by have := (Array.getElem?_eq_some_iff.1 HV.out.2.2.2.1).1; omega))).trans ((B34.block wr.heap.size (Array.getElem?_eq_some_iff.1 H3.out.2.2.1).1).trans H3.out.2.2.1); have c50 : w5.cell? ⟨wr.heap.size, 0, none⟩ = some (.int .i64 9) := (by rw [bk_cell k5]; rfl); have c53 : w5.cell? ⟨wr.heap.size, 3, none⟩ = some (.func (.func 99) #[] #[.pointer (some ⟨b, 0, none⟩)]) := (by rw [bk_cell k5]; rfl); clear k5; have H5 : Hid _ := And.intro o5 (And.intro G5 B34); clear o5 G5 al4 B34))
      all_goals
        have K1 : Hid (OutK w2 w5 r5 p s 8) := HK.out.1.told (k := 7) (num := 9) (ys := putv p.a5) (by decide) HV.out.2.2.1 H3.out.2.1 H5.out.2.2 H5.out.2.1 H5.out.1 (rfl)
        go_wp2_with fail
        go_roundg (13 - (7 + 1))
        case measure => omega
        case rel => exact ⟨8, by omega, rfl, by go_num, K1.out⟩
    · obtain ⟨cs, ⟨hz, hc⟩, hE⟩ := H2.out.1.e8
      obtain ⟨b, rfl, g0, u0, m0, g1, u1, m1, g2, u2, m2⟩ := hE
      have h0 := (HK.out.1.bel.cell (p := ⟨b, 0, none⟩) m0).trans g0
      have l0 := Nat.lt_of_lt_of_le m0 HK.out.1.bel.size
      have h1 := (HK.out.1.bel.cell (p := ⟨b + 1, 0, none⟩) m1).trans g1
      have l1 := Nat.lt_of_lt_of_le m1 HK.out.1.bel.size
      have h2 := (HK.out.1.bel.cell (p := ⟨b + 2, 0, none⟩) m2).trans g2
      have l2 := Nat.lt_of_lt_of_le m2 HK.out.1.bel.size
      have ht : T < w2.heap.size := H2.out.1.lt.2
      have t0 : wr.cell? ⟨T, 40, none⟩ = some (.int .i64 11) := (HK.out.1.bel.cell (p := ⟨T, 40, none⟩) ht).trans (hc 0 (by decide))
      have t1 : wr.cell? ⟨T, 41, none⟩ = some (.func (.func 97) #[] #[.pointer (some ⟨b, 0, none⟩), .pointer (some ⟨(b + 1), 0, none⟩), .pointer (some ⟨(b + 2), 0, none⟩)]) := (HK.out.1.bel.cell (p := ⟨T, 41, none⟩) ht).trans (hc 1 (by decide))
      have t2 : wr.cell? ⟨T, 42, none⟩ = some (.func (.func 98) #[] #[]) := (HK.out.1.bel.cell (p := ⟨T, 42, none⟩) ht).trans (hc 2 (by decide))
      have t3 : wr.cell? ⟨T, 43, none⟩ = some (.func (.func 99) #[] #[.pointer (some ⟨b, 0, none⟩)]) := (HK.out.1.bel.cell (p := ⟨T, 43, none⟩) ht).trans (hc 3 (by decide))
      have t4 : wr.cell? ⟨T, 44, none⟩ = some (.func (.func 100) #[] #[.pointer (some ⟨b, 0, none⟩)]) := (HK.out.1.bel.cell (p := ⟨T, 44, none⟩) ht).trans (hc 4 (by decide))
      have cx : wr.cell? ⟨w.heap.size, 6, none⟩ = some (.int .i64 p.a6) := by rw [bk_cell HK.out.2.2]; rfl
      have lx : w.heap.size < wr.heap.size := (Array.getElem?_eq_some_iff.1 HK.out.2.2).1
      have B1 : ∀ o, Below wr.heap.size wr (wr.alloc o) := fun o => (Below.refl _ _).alloc (Nat.le_refl _) o
      have CT := alwaysC (wr.alloc (.cells #[.int .i64 11, .func (.func 97) #[] #[.pointer (some ⟨b, 0, none⟩), .pointer (some ⟨(b + 1), 0, none⟩), .pointer (some ⟨(b + 2), 0, none⟩)], .func (.func 98) #[] #[], .func (.func 99) #[] #[.pointer (some ⟨b, 0, none⟩)], .func (.func 100) #[] #[.pointer (some ⟨b, 0, none⟩)]] 105))
      have BA : Below wr.heap.size wr ((wr.alloc (.cells #[.int .i64 11, .func (.func 97) #[] #[.pointer (some ⟨b, 0, none⟩), .pointer (some ⟨(b + 1), 0, none⟩), .pointer (some ⟨(b + 2), 0, none⟩)], .func (.func 98) #[] #[], .func (.func 99) #[] #[.pointer (some ⟨b, 0, none⟩)], .func (.func 100) #[] #[.pointer (some ⟨b, 0, none⟩)]] 105)).drew.alloc (.cells #[.int .i64 11] 3)) := (below_drewN (B1 _) 1).alloc (by show wr.heap.size ≤ (wr.alloc _).heap.size; simp) _
      have C3 := putN1 w2.heap.size u6 (parA p s 8) 11 (wr.heap.size + 1) ((wr.alloc (.cells #[.int .i64 11, .func (.func 97) #[] #[.pointer (some ⟨b, 0, none⟩), .pointer (some ⟨(b + 1), 0, none⟩), .pointer (some ⟨(b + 2), 0, none⟩)], .func (.func 98) #[] #[], .func (.func 99) #[] #[.pointer (some ⟨b, 0, none⟩)], .func (.func 100) #[] #[.pointer (some ⟨b, 0, none⟩)]] 105)).drew.alloc (.cells #[.int .i64 11] 3)) (H0.out.2.2.2.2.2.2.2.2 _ (HK.out.2.1.trans (BA.mono HK.out.2.1.size))) (owns_below HK.out.1.own BA) (Nat.le_trans HK.out.1.bel.size BA.size) (by have := H0.out.2.2.2.2.2.2.1 8 (by decide); omega) (by decide) (by decide) (cell_new (t := 3) (newAt1 _ _ _ (by show (wr.alloc _).heap.size = _; simp)))
      have gB : ((wr.alloc (.cells #[.int .i64 11, .func (.func 97) #[] #[.pointer (some ⟨b, 0, none⟩), .pointer (some ⟨(b + 1), 0, none⟩), .pointer (some ⟨(b + 2), 0, none⟩)], .func (.func 98) #[] #[], .func (.func 99) #[] #[.pointer (some ⟨b, 0, none⟩)], .func (.func 100) #[] #[.pointer (some ⟨b, 0, none⟩)]] 105)).drew.alloc (.cells #[.int .i64 11] 3)).heap[wr.heap.size]? = some (.cells #[.int .i64 11, .func (.func 97) #[] #[.pointer (some ⟨b, 0, none⟩), .pointer (some ⟨(b + 1), 0, none⟩), .pointer (some ⟨(b + 2), 0, none⟩)], .func (.func 98) #[] #[], .func (.func 99) #[] #[.pointer (some ⟨b, 0, none⟩)], .func (.func 100) #[] #[.pointer (some ⟨b, 0, none⟩)]] 105) := (Below.heap_alloc _ _ _ (by show wr.heap.size < (wr.alloc _).heap.size; simp)).trans (heap_alloc_new wr (.cells #[.int .i64 11, .func (.func 97) #[] #[.pointer (some ⟨b, 0, none⟩), .pointer (some ⟨(b + 1), 0, none⟩), .pointer (some ⟨(b + 2), 0, none⟩)], .func (.func 98) #[] #[], .func (.func 99) #[] #[.pointer (some ⟨b, 0, none⟩)], .func (.func 100) #[] #[.pointer (some ⟨b, 0, none⟩)]] 105))
      have HV : Hid _ := And.intro CT (And.intro C3 (And.intro BA (And.intro gB (And.intro h0 (And.intro l0 (And.intro m0 (And.intro cx lx)))))))
      clear CT C3 BA gB hc hz B1 cx h0 u0 l0 g0 m0 h1 u1 l1 g1 m1 h2 u2 l2 g2 m2
      go_wp2_with (go_at_call 98; refine HV.out.1.mono ?_; rintro e w3 ⟨rfl, hw⟩; subst w3)
      have tok1 : True := trivial
      have tok2 : True := trivial
      have cA0 : (wr.alloc (.cells #[.int .i64 11, .func (.func 97) #[] #[.pointer (some ⟨b, 0, none⟩), .pointer (some ⟨(b + 1), 0, none⟩), .pointer (some ⟨(b + 2), 0, none⟩)], .func (.func 98) #[] #[], .func (.func 99) #[] #[.pointer (some ⟨b, 0, none⟩)], .func (.func 100) #[] #[.pointer (some ⟨b, 0, none⟩)]] 105)).cell? ⟨wr.heap.size, 0, none⟩ = some (.int .i64 11) := by rw [bk_cell (heap_alloc_new wr (.cells #[.int .i64 11, .func (.func 97) #[] #[.pointer (some ⟨b, 0, none⟩), .pointer (some ⟨(b + 1), 0, none⟩), .pointer (some ⟨(b + 2), 0, none⟩)], .func (.func 98) #[] #[], .func (.func 99) #[] #[.pointer (some ⟨b, 0, none⟩)], .func (.func 100) #[] #[.pointer (some ⟨b, 0, none⟩)]] 105))]; rfl
      have cA3 : (wr.alloc (.cells #[.int .i64 11, .func (.func 97) #[] #[.pointer (some ⟨b, 0, none⟩), .pointer (some ⟨(b + 1), 0, none⟩), .pointer (some ⟨(b + 2), 0, none⟩)], .func (.func 98) #[] #[], .func (.func 99) #[] #[.pointer (some ⟨b, 0, none⟩)], .func (.func 100) #[] #[.pointer (some ⟨b, 0, none⟩)]] 105)).cell? ⟨wr.heap.size, 3, none⟩ = some (.func (.func 99) #[] #[.pointer (some ⟨b, 0, none⟩)]) := by rw [bk_cell (heap_alloc_new wr (.cells #[.int .i64 11, .func (.func 97) #[] #[.pointer (some ⟨b, 0, none⟩), .pointer (some ⟨(b + 1), 0, none⟩), .pointer (some ⟨(b + 2), 0, none⟩)], .func (.func 98) #[] #[], .func (.func 99) #[] #[.pointer (some ⟨b, 0, none⟩)], .func (.func 100) #[] #[.pointer (some ⟨b, 0, none⟩)]] 105))]; rfl
      go_upto_region 8 with fail
      go_region_held3 (fun w' => w'.cell? ⟨wr.heap.size, 0, none⟩ = some (.int .i64 11) ∧ w'.cell? ⟨wr.heap.size, 3, none⟩ = some (.func (.func 99) #[] #[.pointer (some ⟨b, 0, none⟩)])) (go_keep)
        (first
        | (go_at_call 75; have _t := tok1; refine HV.out.2.1.mono ?_; rintro e w3 ⟨r3, rfl, o3, G3⟩; have k3 := G3.chg.block wr.heap.size (Array.getElem?_eq_some_iff.1 HV.out.2.2.2.1).1 (fun e => by have := (HK.out.1.own.lt _ e).2; omega); have c30 : w3.cell? ⟨wr.heap.size, 0, none⟩ = some (.int .i64 11) := (by rw [bk_cell (k3.trans HV.out.2.2.2.1)]; rfl); have c33 : w3.cell? ⟨wr.heap.size, 3, none⟩ = some (.func (.func 99) #[] #[.pointer (some ⟨b, 0, none⟩)]) := (by rw [bk_cell (k3.trans HV.out.2.2.2.1)]; rfl); have H3 : Hid _ := And.intro o3 (And.intro G3 (And.intro (k3.trans HV.out.2.2.2.1) ((HK.out.1.bel.trans (HV.out.2.2.1.mono HK.out.1.bel.size)).trans (G3.below (owns_below HK.out.1.own HV.out.2.2.1) (Nat.le_trans HK.out.1.bel.size HV.out.2.2.1.size))))); clear o3 G3 k3 tok1)
        | (go_at_call 99; have _t := tok2; have kb : w3.cell? ⟨b, 0, none⟩ = wr.cell? ⟨b, 0, none⟩ := keep_cell H3.out.2.1 HV.out.2.2.1 HK.out.1.own HV.out.2.2.2.2.2.2.1 HV.out.2.2.2.2.2.1; have kg : w3.cell? ⟨w.heap.size, 6, none⟩ = wr.cell? ⟨w.heap.size, 6, none⟩ := keep_cell H3.out.2.1 HV.out.2.2.1 HK.out.1.own (by omega) lx; refine (numVal b w.heap.size 6 p.a6 w3 (H0.out.2.2.2.2.2.2.2.2 _ (H2.out.2.1.trans (H3.out.2.2.2.mono H2.out.2.1.size))) (by have := HQ.out.2.2.2.2.2.2.1; omega) (by have := HQ.out.2.2.2.2.2.2.1; omega) (kb.trans HV.out.2.2.2.2.1) (kg.trans HV.out.2.2.2.2.2.2.2.1)).mono ?_; rintro e w4 ⟨r4, rfl, o4, b4⟩; obtain ⟨a4, q4, er⟩ := (row_of_owns o4).form; subst er; have c40 : w4.cell? ⟨wr.heap.size, 0, none⟩ = some (.int .i64 11) := (by rw [bk_cell ((b4.block wr.heap.size (Array.getElem?_eq_some_iff.1 H3.out.2.2.1).1).trans H3.out.2.2.1)]; rfl); have c43 : w4.cell? ⟨wr.heap.size, 3, none⟩ = some (.func (.func 99) #[] #[.pointer (some ⟨b, 0, none⟩)]) := (by rw [bk_cell ((b4.block wr.heap.size (Array.getElem?_eq_some_iff.1 H3.out.2.2.1).1).trans H3.out.2.2.1)]; rfl); have H4 : Hid _ := And.intro b4 (And.intro (row_of_owns o4) (fun (hx : (putv p.a6) ≠ []) k (e : Value.ownBlock _ = some k) => (o4.lt k e).1)); clear o4 b4 kb kg tok2)
        | (go_at_call 53; have al4 : Below w4.heap.size w4 (w4.alloc (.cells #[.slice a4 (putv p.a6).length q4] 22)) := (Below.refl _ _).alloc (Nat.le_refl _) _; have B34 : Below w3.heap.size w3 (w4.alloc (.cells #[.slice a4 (putv p.a6).length q4] 22)) := H4.out.1.trans (al4.mono H4.out.1.size); refine (putC1 w2.heap.size r3 (.slice a4 (putv p.a6).length q4) (parA p s 8 ++ putv 11) (putv p.a6) w4.heap.size (w4.alloc (.cells #[.slice a4 (putv p.a6).length q4] 22)) (H0.out.2.2.2.2.2.2.2.2 _ ((H2.out.2.1.trans (H3.out.2.2.2.mono H2.out.2.1.size)).trans (B34.mono (Nat.le_trans H2.out.2.1.size H3.out.2.2.2.size)))) (owns_below H3.out.1 B34) (H4.out.2.1.below al4) (fun hx k h h2 => by have := H4.out.2.2 hx k h; have := (H3.out.1.lt k h2).2; omega) (Nat.le_trans H3.out.2.2.2.size B34.size) (by have := H0.out.2.2.2.2.2.2.1 8 (by decide); have := putv_le 11 (by decide) (by decide); rw [List.length_append]; omega) (by have := putv_le p.a6 (by have := HQ.out.2.2.2.2.2.2.1; omega) (by have := HQ.out.2.2.2.2.2.2.1; omega); omega) (laid1 _ _ _)).mono ?_; rintro e w5 ⟨r5, rfl, o5, G5⟩; have k5 := (G5.chg.block wr.heap.size (Nat.lt_of_lt_of_le (Array.getElem?_eq_some_iff.1 H3.out.2.2.1).1 B34.size) (fun e => (H3.out.2.1.loc _ e).elim (fun q => by have := (HK.out.1.own.lt _ q).2; omega) (fun q => by have := (Array.getElem?_eq_some_iff.1 HV.out.2.2.2.1).1; omega))).trans ((B34.block wr.heap.size (Array.getElem?_eq_some_iff.1 H3.out.2.2.1).1).trans H3.out.2.2.1); have c50 : w5.cell? ⟨wr.heap.size, 0, none⟩ = some (.int .i64 11) := (by rw [bk_cell k5]; rfl); have c53 : w5.cell? ⟨wr.heap.size, 3, none⟩ = some (.func (.func 99) #[] #[.pointer (some ⟨b, 0, none⟩)]) := (by rw [bk_cell k5]; rfl); clear k5; have H5 : Hid _ := And.intro o5 (And.intro G5 B34); clear o5 G5 al4 B34))
      all_goals
        have K1 : Hid (OutK w2 w5 r5 p s 9) := HK.out.1.told (k := 8) (num := 11) (ys := putv p.a6) (by decide) HV.out.2.2.1 H3.out.2.1 H5.out.2.2 H5.out.2.1 H5.out.1 (rfl)
        go_wp2_with fail
        go_roundg (13 - (8 + 1))
        case measure => omega
        case rel => exact ⟨9, by omega, rfl, by go_num, K1.out⟩
    · obtain ⟨cs, ⟨hz, hc⟩, hE⟩ := H2.out.1.e9
      obtain ⟨b, rfl, g0, u0, m0⟩ := hE
      have h0 := (HK.out.1.bel.cell (p := ⟨b, 0, none⟩) m0).trans g0
      have l0 := Nat.lt_of_lt_of_le m0 HK.out.1.bel.size
      have ht : T < w2.heap.size := H2.out.1.lt.2
      have t0 : wr.cell? ⟨T, 45, none⟩ = some (.int .i64 12) := (HK.out.1.bel.cell (p := ⟨T, 45, none⟩) ht).trans (hc 0 (by decide))
      have t1 : wr.cell? ⟨T, 46, none⟩ = some (.func (.func 98) #[] #[]) := (HK.out.1.bel.cell (p := ⟨T, 46, none⟩) ht).trans (hc 1 (by decide))
      have t2 : wr.cell? ⟨T, 47, none⟩ = some (.func (.func 105) #[] #[.pointer (some ⟨b, 0, none⟩)]) := (HK.out.1.bel.cell (p := ⟨T, 47, none⟩) ht).trans (hc 2 (by decide))
      have t3 : wr.cell? ⟨T, 48, none⟩ = some (.func (.func 106) #[] #[]) := (HK.out.1.bel.cell (p := ⟨T, 48, none⟩) ht).trans (hc 3 (by decide))
      have t4 : wr.cell? ⟨T, 49, none⟩ = some (.func (.func 107) #[] #[.pointer (some ⟨b, 0, none⟩)]) := (HK.out.1.bel.cell (p := ⟨T, 49, none⟩) ht).trans (hc 4 (by decide))
      have cx : wr.cell? ⟨w.heap.size, 9, none⟩ = some (.bool p.m) := by rw [bk_cell HK.out.2.2]; rfl
      have lx : w.heap.size < wr.heap.size := (Array.getElem?_eq_some_iff.1 HK.out.2.2).1
      have B1 : ∀ o, Below wr.heap.size wr (wr.alloc o) := fun o => (Below.refl _ _).alloc (Nat.le_refl _) o
      have CT := flgTold b w.heap.size 9 p.m (wr.alloc (.cells #[.int .i64 12, .func (.func 98) #[] #[], .func (.func 105) #[] #[.pointer (some ⟨b, 0, none⟩)], .func (.func 106) #[] #[], .func (.func 107) #[] #[.pointer (some ⟨b, 0, none⟩)]] 105)) (((B1 _).cell (p := ⟨b, 0, none⟩) l0).trans h0) (((B1 _).cell (p := ⟨w.heap.size, 9, none⟩) lx).trans cx)
      obtain ⟨t, et⟩ : ∃ t : Bool, t = (p.m) := ⟨_, rfl⟩
      rw [← et] at CT
      have ET : Hid _ := And.intro et True.intro
      clear et
      have BA : Below wr.heap.size wr ((wr.alloc (.cells #[.int .i64 12, .func (.func 98) #[] #[], .func (.func 105) #[] #[.pointer (some ⟨b, 0, none⟩)], .func (.func 106) #[] #[], .func (.func 107) #[] #[.pointer (some ⟨b, 0, none⟩)]] 105)).drew.alloc (.cells #[.int .i64 12] 3)) := (below_drewN (B1 _) 1).alloc (by show wr.heap.size ≤ (wr.alloc _).heap.size; simp) _
      have C3 := putN1 w2.heap.size u6 (parA p s 9) 12 (wr.heap.size + 1) ((wr.alloc (.cells #[.int .i64 12, .func (.func 98) #[] #[], .func (.func 105) #[] #[.pointer (some ⟨b, 0, none⟩)], .func (.func 106) #[] #[], .func (.func 107) #[] #[.pointer (some ⟨b, 0, none⟩)]] 105)).drew.alloc (.cells #[.int .i64 12] 3)) (H0.out.2.2.2.2.2.2.2.2 _ (HK.out.2.1.trans (BA.mono HK.out.2.1.size))) (owns_below HK.out.1.own BA) (Nat.le_trans HK.out.1.bel.size BA.size) (by have := H0.out.2.2.2.2.2.2.1 9 (by decide); omega) (by decide) (by decide) (cell_new (t := 3) (newAt1 _ _ _ (by show (wr.alloc _).heap.size = _; simp)))
      have gB : ((wr.alloc (.cells #[.int .i64 12, .func (.func 98) #[] #[], .func (.func 105) #[] #[.pointer (some ⟨b, 0, none⟩)], .func (.func 106) #[] #[], .func (.func 107) #[] #[.pointer (some ⟨b, 0, none⟩)]] 105)).drew.alloc (.cells #[.int .i64 12] 3)).heap[wr.heap.size]? = some (.cells #[.int .i64 12, .func (.func 98) #[] #[], .func (.func 105) #[] #[.pointer (some ⟨b, 0, none⟩)], .func (.func 106) #[] #[], .func (.func 107) #[] #[.pointer (some ⟨b, 0, none⟩)]] 105) := (Below.heap_alloc _ _ _ (by show wr.heap.size < (wr.alloc _).heap.size; simp)).trans (heap_alloc_new wr (.cells #[.int .i64 12, .func (.func 98) #[] #[], .func (.func 105) #[] #[.pointer (some ⟨b, 0, none⟩)], .func (.func 106) #[] #[], .func (.func 107) #[] #[.pointer (some ⟨b, 0, none⟩)]] 105))
      have HV : Hid _ := And.intro CT (And.intro C3 (And.intro BA (And.intro gB (And.intro h0 (And.intro l0 (And.intro m0 (And.intro cx lx)))))))
      clear CT C3 BA gB hc hz B1 cx h0 u0 l0 g0 m0
      cases t
      · skip
        go_wp2_with (go_at_call 105; refine HV.out.1.mono ?_; rintro e w3 ⟨rfl, hw⟩; subst w3)
        have K1 := HK.out.1.skip (k := 9) (by decide) (by show (if p.m = true then entB 12 [] else []) = []; rw [if_neg (by rw [← ET.out.1]; decide)])
        go_roundg (13 - (9 + 1))
        case measure => omega
        case rel => exact ⟨10, by omega, rfl, by go_num, ⟨owns_below K1.own ((Below.refl _ _).alloc (Nat.le_refl _) _), K1.bel.alloc K1.bel.size _⟩⟩
      · skip
        go_wp2_with (go_at_call 105; refine HV.out.1.mono ?_; rintro e w3 ⟨rfl, hw⟩; subst w3)
        have tok1 : True := trivial
        have tok2 : True := trivial
        have cA0 : (wr.alloc (.cells #[.int .i64 12, .func (.func 98) #[] #[], .func (.func 105) #[] #[.pointer (some ⟨b, 0, none⟩)], .func (.func 106) #[] #[], .func (.func 107) #[] #[.pointer (some ⟨b, 0, none⟩)]] 105)).cell? ⟨wr.heap.size, 0, none⟩ = some (.int .i64 12) := by rw [bk_cell (heap_alloc_new wr (.cells #[.int .i64 12, .func (.func 98) #[] #[], .func (.func 105) #[] #[.pointer (some ⟨b, 0, none⟩)], .func (.func 106) #[] #[], .func (.func 107) #[] #[.pointer (some ⟨b, 0, none⟩)]] 105))]; rfl
        have cA3 : (wr.alloc (.cells #[.int .i64 12, .func (.func 98) #[] #[], .func (.func 105) #[] #[.pointer (some ⟨b, 0, none⟩)], .func (.func 106) #[] #[], .func (.func 107) #[] #[.pointer (some ⟨b, 0, none⟩)]] 105)).cell? ⟨wr.heap.size, 3, none⟩ = some (.func (.func 106) #[] #[]) := by rw [bk_cell (heap_alloc_new wr (.cells #[.int .i64 12, .func (.func 98) #[] #[], .func (.func 105) #[] #[.pointer (some ⟨b, 0, none⟩)], .func (.func 106) #[] #[], .func (.func 107) #[] #[.pointer (some ⟨b, 0, none⟩)]] 105))]; rfl
        go_upto_region 8 with fail
        go_region_held3 (fun w' => w'.cell? ⟨wr.heap.size, 0, none⟩ = some (.int .i64 12) ∧ w'.cell? ⟨wr.heap.size, 3, none⟩ = some (.func (.func 106) #[] #[])) (go_keep)
          (first
          | (go_at_call 75; have _t := tok1; refine HV.out.2.1.mono ?_; rintro e w3 ⟨r3, rfl, o3, G3⟩; have k3 := G3.chg.block wr.heap.size (Array.getElem?_eq_some_iff.1 HV.out.2.2.2.1).1 (fun e => by have := (HK.out.1.own.lt _ e).2; omega); have c30 : w3.cell? ⟨wr.heap.size, 0, none⟩ = some (.int .i64 12) := (by rw [bk_cell (k3.trans HV.out.2.2.2.1)]; rfl); have c33 : w3.cell? ⟨wr.heap.size, 3, none⟩ = some (.func (.func 106) #[] #[]) := (by rw [bk_cell (k3.trans HV.out.2.2.2.1)]; rfl); have H3 : Hid _ := And.intro o3 (And.intro G3 (And.intro (k3.trans HV.out.2.2.2.1) ((HK.out.1.bel.trans (HV.out.2.2.1.mono HK.out.1.bel.size)).trans (G3.below (owns_below HK.out.1.own HV.out.2.2.1) (Nat.le_trans HK.out.1.bel.size HV.out.2.2.1.size))))); clear o3 G3 k3 tok1)
          | (go_at_call 106; have _t := tok2; refine (flgVal w3).mono ?_; rintro e w4 ⟨rfl, hw4⟩; subst w4; clear tok2)
          | (go_at_call 53; have al4 : Below w3.heap.size w3 (w3.alloc (.cells #[.slice none 0 0] 22)) := (Below.refl _ _).alloc (Nat.le_refl _) _; have B34 : Below w3.heap.size w3 (w3.alloc (.cells #[.slice none 0 0] 22)) := (Below.refl w3.heap.size w3).trans (al4.mono (Below.refl w3.heap.size w3).size); refine (putC1 w2.heap.size r3 (.slice none 0 0) (parA p s 9 ++ putv 12) ([]) w3.heap.size (w3.alloc (.cells #[.slice none 0 0] 22)) (H0.out.2.2.2.2.2.2.2.2 _ ((H2.out.2.1.trans (H3.out.2.2.2.mono H2.out.2.1.size)).trans (B34.mono (Nat.le_trans H2.out.2.1.size H3.out.2.2.2.size)))) (owns_below H3.out.1 B34) ((show Row w3 .u8 (.slice none 0 0) [] from Or.inl ⟨rfl, _, _, rfl⟩).below al4) (fun hx => absurd rfl hx) (Nat.le_trans H3.out.2.2.2.size B34.size) (by have := H0.out.2.2.2.2.2.2.1 9 (by decide); have := putv_le 12 (by decide) (by decide); rw [List.length_append]; omega) (by simp) (laid1 _ _ _)).mono ?_; rintro e w5 ⟨r5, rfl, o5, G5⟩; have k5 := (G5.chg.block wr.heap.size (Nat.lt_of_lt_of_le (Array.getElem?_eq_some_iff.1 H3.out.2.2.1).1 B34.size) (fun e => (H3.out.2.1.loc _ e).elim (fun q => by have := (HK.out.1.own.lt _ q).2; omega) (fun q => by have := (Array.getElem?_eq_some_iff.1 HV.out.2.2.2.1).1; omega))).trans ((B34.block wr.heap.size (Array.getElem?_eq_some_iff.1 H3.out.2.2.1).1).trans H3.out.2.2.1); have c50 : w5.cell? ⟨wr.heap.size, 0, none⟩ = some (.int .i64 12) := (by rw [bk_cell k5]; rfl); have c53 : w5.cell? ⟨wr.heap.size, 3, none⟩ = some (.func (.func 106) #[] #[]) := (by rw [bk_cell k5]; rfl); clear k5; have H5 : Hid _ := And.intro o5 (And.intro G5 B34); clear o5 G5 al4 B34))
        all_goals
          have K1 : Hid (OutK w2 w5 r5 p s 10) := HK.out.1.told (k := 9) (num := 12) (ys := []) (by decide) HV.out.2.2.1 H3.out.2.1 H5.out.2.2 H5.out.2.1 H5.out.1 (by show (if p.m = true then entB 12 [] else []) = _; rw [if_pos (by rw [← ET.out.1])])
          go_wp2_with fail
          go_roundg (13 - (9 + 1))
          case measure => omega
          case rel => exact ⟨10, by omega, rfl, by go_num, K1.out⟩
    · obtain ⟨cs, ⟨hz, hc⟩, hE⟩ := H2.out.1.e10
      obtain ⟨b, rfl, g0, u0, m0, g1, u1, m1, g2, u2, m2⟩ := hE
      have h0 := (HK.out.1.bel.cell (p := ⟨b, 0, none⟩) m0).trans g0
      have l0 := Nat.lt_of_lt_of_le m0 HK.out.1.bel.size
      have h1 := (HK.out.1.bel.cell (p := ⟨b + 1, 0, none⟩) m1).trans g1
      have l1 := Nat.lt_of_lt_of_le m1 HK.out.1.bel.size
      have h2 := (HK.out.1.bel.cell (p := ⟨b + 2, 0, none⟩) m2).trans g2
      have l2 := Nat.lt_of_lt_of_le m2 HK.out.1.bel.size
      have ht : T < w2.heap.size := H2.out.1.lt.2
      have t0 : wr.cell? ⟨T, 50, none⟩ = some (.int .i64 14) := (HK.out.1.bel.cell (p := ⟨T, 50, none⟩) ht).trans (hc 0 (by decide))
      have t1 : wr.cell? ⟨T, 51, none⟩ = some (.func (.func 97) #[] #[.pointer (some ⟨b, 0, none⟩), .pointer (some ⟨(b + 1), 0, none⟩), .pointer (some ⟨(b + 2), 0, none⟩)]) := (HK.out.1.bel.cell (p := ⟨T, 51, none⟩) ht).trans (hc 1 (by decide))
      have t2 : wr.cell? ⟨T, 52, none⟩ = some (.func (.func 98) #[] #[]) := (HK.out.1.bel.cell (p := ⟨T, 52, none⟩) ht).trans (hc 2 (by decide))
      have t3 : wr.cell? ⟨T, 53, none⟩ = some (.func (.func 99) #[] #[.pointer (some ⟨b, 0, none⟩)]) := (HK.out.1.bel.cell (p := ⟨T, 53, none⟩) ht).trans (hc 3 (by decide))
      have t4 : wr.cell? ⟨T, 54, none⟩ = some (.func (.func 100) #[] #[.pointer (some ⟨b, 0, none⟩)]) := (HK.out.1.bel.cell (p := ⟨T, 54, none⟩) ht).trans (hc 4 (by decide))
      have cx : wr.cell? ⟨w.heap.size, 7, none⟩ = some (.int .i64 p.a7) := by rw [bk_cell HK.out.2.2]; rfl
      have lx : w.heap.size < wr.heap.size := (Array.getElem?_eq_some_iff.1 HK.out.2.2).1
      have B1 : ∀ o, Below wr.heap.size wr (wr.alloc o) := fun o => (Below.refl _ _).alloc (Nat.le_refl _) o
      have CT := alwaysC (wr.alloc (.cells #[.int .i64 14, .func (.func 97) #[] #[.pointer (some ⟨b, 0, none⟩), .pointer (some ⟨(b + 1), 0, none⟩), .pointer (some ⟨(b + 2), 0, none⟩)], .func (.func 98) #[] #[], .func (.func 99) #[] #[.pointer (some ⟨b, 0, none⟩)], .func (.func 100) #[] #[.pointer (some ⟨b, 0, none⟩)]] 105))
      have BA : Below wr.heap.size wr ((wr.alloc (.cells #[.int .i64 14, .func (.func 97) #[] #[.pointer (some ⟨b, 0, none⟩), .pointer (some ⟨(b + 1), 0, none⟩), .pointer (some ⟨(b + 2), 0, none⟩)], .func (.func 98) #[] #[], .func (.func 99) #[] #[.pointer (some ⟨b, 0, none⟩)], .func (.func 100) #[] #[.pointer (some ⟨b, 0, none⟩)]] 105)).drew.alloc (.cells #[.int .i64 14] 3)) := (below_drewN (B1 _) 1).alloc (by show wr.heap.size ≤ (wr.alloc _).heap.size; simp) _
      have C3 := putN1 w2.heap.size u6 (parA p s 10) 14 (wr.heap.size + 1) ((wr.alloc (.cells #[.int .i64 14, .func (.func 97) #[] #[.pointer (some ⟨b, 0, none⟩), .pointer (some ⟨(b + 1), 0, none⟩), .pointer (some ⟨(b + 2), 0, none⟩)], .func (.func 98) #[] #[], .func (.func 99) #[] #[.pointer (some ⟨b, 0, none⟩)], .func (.func 100) #[] #[.pointer (some ⟨b, 0, none⟩)]] 105)).drew.alloc (.cells #[.int .i64 14] 3)) (H0.out.2.2.2.2.2.2.2.2 _ (HK.out.2.1.trans (BA.mono HK.out.2.1.size))) (owns_below HK.out.1.own BA) (Nat.le_trans HK.out.1.bel.size BA.size) (by have := H0.out.2.2.2.2.2.2.1 10 (by decide); omega) (by decide) (by decide) (cell_new (t := 3) (newAt1 _ _ _ (by show (wr.alloc _).heap.size = _; simp)))
      have gB : ((wr.alloc (.cells #[.int .i64 14, .func (.func 97) #[] #[.pointer (some ⟨b, 0, none⟩), .pointer (some ⟨(b + 1), 0, none⟩), .pointer (some ⟨(b + 2), 0, none⟩)], .func (.func 98) #[] #[], .func (.func 99) #[] #[.pointer (some ⟨b, 0, none⟩)], .func (.func 100) #[] #[.pointer (some ⟨b, 0, none⟩)]] 105)).drew.alloc (.cells #[.int .i64 14] 3)).heap[wr.heap.size]? = some (.cells #[.int .i64 14, .func (.func 97) #[] #[.pointer (some ⟨b, 0, none⟩), .pointer (some ⟨(b + 1), 0, none⟩), .pointer (some ⟨(b + 2), 0, none⟩)], .func (.func 98) #[] #[], .func (.func 99) #[] #[.pointer (some ⟨b, 0, none⟩)], .func (.func 100) #[] #[.pointer (some ⟨b, 0, none⟩)]] 105) := (Below.heap_alloc _ _ _ (by show wr.heap.size < (wr.alloc _).heap.size; simp)).trans (heap_alloc_new wr (.cells #[.int .i64 14, .func (.func 97) #[] #[.pointer (some ⟨b, 0, none⟩), .pointer (some ⟨(b + 1), 0, none⟩), .pointer (some ⟨(b + 2), 0, none⟩)], .func (.func 98) #[] #[], .func (.func 99) #[] #[.pointer (some ⟨b, 0, none⟩)], .func (.func 100) #[] #[.pointer (some ⟨b, 0, none⟩)]] 105))
      have HV : Hid _ := And.intro CT (And.intro C3 (And.intro BA (And.intro gB (And.intro h0 (And.intro l0 (And.intro m0 (And.intro cx lx)))))))
      clear CT C3 BA gB hc hz B1 cx h0 u0 l0 g0 m0 h1 u1 l1 g1 m1 h2 u2 l2 g2 m2
      go_wp2_with (go_at_call 98; refine HV.out.1.mono ?_; rintro e w3 ⟨rfl, hw⟩; subst w3)
      have tok1 : True := trivial
      have tok2 : True := trivial
      have cA0 : (wr.alloc (.cells #[.int .i64 14, .func (.func 97) #[] #[.pointer (some ⟨b, 0, none⟩), .pointer (some ⟨(b + 1), 0, none⟩), .pointer (some ⟨(b + 2), 0, none⟩)], .func (.func 98) #[] #[], .func (.func 99) #[] #[.pointer (some ⟨b, 0, none⟩)], .func (.func 100) #[] #[.pointer (some ⟨b, 0, none⟩)]] 105)).cell? ⟨wr.heap.size, 0, none⟩ = some (.int .i64 14) := by rw [bk_cell (heap_alloc_new wr (.cells #[.int .i64 14, .func (.func 97) #[] #[.pointer (some ⟨b, 0, none⟩), .pointer (some ⟨(b + 1), 0, none⟩), .pointer (some ⟨(b + 2), 0, none⟩)], .func (.func 98) #[] #[], .func (.func 99) #[] #[.pointer (some ⟨b, 0, none⟩)], .func (.func 100) #[] #[.pointer (some ⟨b, 0, none⟩)]] 105))]; rfl
      have cA3 : (wr.alloc (.cells #[.int .i64 14, .func (.func 97) #[] #[.pointer (some ⟨b, 0, none⟩), .pointer (some ⟨(b + 1), 0, none⟩), .pointer (some ⟨(b + 2), 0, none⟩)], .func (.func 98) #[] #[], .func (.func 99) #[] #[.pointer (some ⟨b, 0, none⟩)], .func (.func 100) #[] #[.pointer (some ⟨b, 0, none⟩)]] 105)).cell? ⟨wr.heap.size, 3, none⟩ = some (.func (.func 99) #[] #[.pointer (some ⟨b, 0, none⟩)]) := by rw [bk_cell (heap_alloc_new wr (.cells #[.int .i64 14, .func (.func 97) #[] #[.pointer (some ⟨b, 0, none⟩), .pointer (some ⟨(b + 1), 0, none⟩), .pointer (some ⟨(b + 2), 0, none⟩)], .func (.func 98) #[] #[], .func (.func 99) #[] #[.pointer (some ⟨b, 0, none⟩)], .func (.func 100) #[] #[.pointer (some ⟨b, 0, none⟩)]] 105))]; rfl
      go_upto_region 8 with fail
      go_region_held3 (fun w' => w'.cell? ⟨wr.heap.size, 0, none⟩ = some (.int .i64 14) ∧ w'.cell? ⟨wr.heap.size, 3, none⟩ = some (.func (.func 99) #[] #[.pointer (some ⟨b, 0, none⟩)])) (go_keep)
        (first
        | (go_at_call 75; have _t := tok1; refine HV.out.2.1.mono ?_; rintro e w3 ⟨r3, rfl, o3, G3⟩; have k3 := G3.chg.block wr.heap.size (Array.getElem?_eq_some_iff.1 HV.out.2.2.2.1).1 (fun e => by have := (HK.out.1.own.lt _ e).2; omega); have c30 : w3.cell? ⟨wr.heap.size, 0, none⟩ = some (.int .i64 14) := (by rw [bk_cell (k3.trans HV.out.2.2.2.1)]; rfl); have c33 : w3.cell? ⟨wr.heap.size, 3, none⟩ = some (.func (.func 99) #[] #[.pointer (some ⟨b, 0, none⟩)]) := (by rw [bk_cell (k3.trans HV.out.2.2.2.1)]; rfl); have H3 : Hid _ := And.intro o3 (And.intro G3 (And.intro (k3.trans HV.out.2.2.2.1) ((HK.out.1.bel.trans (HV.out.2.2.1.mono HK.out.1.bel.size)).trans (G3.below (owns_below HK.out.1.own HV.out.2.2.1) (Nat.le_trans HK.out.1.bel.size HV.out.2.2.1.size))))); clear o3 G3 k3 tok1)
        | (go_at_call 99; have _t := tok2; have kb : w3.cell? ⟨b, 0, none⟩ = wr.cell? ⟨b, 0, none⟩ := keep_cell H3.out.2.1 HV.out.2.2.1 HK.out.1.own HV.out.2.2.2.2.2.2.1 HV.out.2.2.2.2.2.1; have kg : w3.cell? ⟨w.heap.size, 7, none⟩ = wr.cell? ⟨w.heap.size, 7, none⟩ := keep_cell H3.out.2.1 HV.out.2.2.1 HK.out.1.own (by omega) lx; refine (numVal b w.heap.size 7 p.a7 w3 (H0.out.2.2.2.2.2.2.2.2 _ (H2.out.2.1.trans (H3.out.2.2.2.mono H2.out.2.1.size))) (by have := HQ.out.2.2.2.2.2.2.2.1; omega) (by have := HQ.out.2.2.2.2.2.2.2.1; omega) (kb.trans HV.out.2.2.2.2.1) (kg.trans HV.out.2.2.2.2.2.2.2.1)).mono ?_; rintro e w4 ⟨r4, rfl, o4, b4⟩; obtain ⟨a4, q4, er⟩ := (row_of_owns o4).form; subst er; have c40 : w4.cell? ⟨wr.heap.size, 0, none⟩ = some (.int .i64 14) := (by rw [bk_cell ((b4.block wr.heap.size (Array.getElem?_eq_some_iff.1 H3.out.2.2.1).1).trans H3.out.2.2.1)]; rfl); have c43 : w4.cell? ⟨wr.heap.size, 3, none⟩ = some (.func (.func 99) #[] #[.pointer (some ⟨b, 0, none⟩)]) := (by rw [bk_cell ((b4.block wr.heap.size (Array.getElem?_eq_some_iff.1 H3.out.2.2.1).1).trans H3.out.2.2.1)]; rfl); have H4 : Hid _ := And.intro b4 (And.intro (row_of_owns o4) (fun (hx : (putv p.a7) ≠ []) k (e : Value.ownBlock _ = some k) => (o4.lt k e).1)); clear o4 b4 kb kg tok2)
        | (go_at_call 53; have al4 : Below w4.heap.size w4 (w4.alloc (.cells #[.slice a4 (putv p.a7).length q4] 22)) := (Below.refl _ _).alloc (Nat.le_refl _) _; have B34 : Below w3.heap.size w3 (w4.alloc (.cells #[.slice a4 (putv p.a7).length q4] 22)) := H4.out.1.trans (al4.mono H4.out.1.size); refine (putC1 w2.heap.size r3 (.slice a4 (putv p.a7).length q4) (parA p s 10 ++ putv 14) (putv p.a7) w4.heap.size (w4.alloc (.cells #[.slice a4 (putv p.a7).length q4] 22)) (H0.out.2.2.2.2.2.2.2.2 _ ((H2.out.2.1.trans (H3.out.2.2.2.mono H2.out.2.1.size)).trans (B34.mono (Nat.le_trans H2.out.2.1.size H3.out.2.2.2.size)))) (owns_below H3.out.1 B34) (H4.out.2.1.below al4) (fun hx k h h2 => by have := H4.out.2.2 hx k h; have := (H3.out.1.lt k h2).2; omega) (Nat.le_trans H3.out.2.2.2.size B34.size) (by have := H0.out.2.2.2.2.2.2.1 10 (by decide); have := putv_le 14 (by decide) (by decide); rw [List.length_append]; omega) (by have := putv_le p.a7 (by have := HQ.out.2.2.2.2.2.2.2.1; omega) (by have := HQ.out.2.2.2.2.2.2.2.1; omega); omega) (laid1 _ _ _)).mono ?_; rintro e w5 ⟨r5, rfl, o5, G5⟩; have k5 := (G5.chg.block wr.heap.size (Nat.lt_of_lt_of_le (Array.getElem?_eq_some_iff.1 H3.out.2.2.1).1 B34.size) (fun e => (H3.out.2.1.loc _ e).elim (fun q => by have := (HK.out.1.own.lt _ q).2; omega) (fun q => by have := (Array.getElem?_eq_some_iff.1 HV.out.2.2.2.1).1; omega))).trans ((B34.block wr.heap.size (Array.getElem?_eq_some_iff.1 H3.out.2.2.1).1).trans H3.out.2.2.1); have c50 : w5.cell? ⟨wr.heap.size, 0, none⟩ = some (.int .i64 14) := (by rw [bk_cell k5]; rfl); have c53 : w5.cell? ⟨wr.heap.size, 3, none⟩ = some (.func (.func 99) #[] #[.pointer (some ⟨b, 0, none⟩)]) := (by rw [bk_cell k5]; rfl); clear k5; have H5 : Hid _ := And.intro o5 (And.intro G5 B34); clear o5 G5 al4 B34))
      all_goals
        have K1 : Hid (OutK w2 w5 r5 p s 11) := HK.out.1.told (k := 10) (num := 14) (ys := putv p.a7) (by decide) HV.out.2.2.1 H3.out.2.1 H5.out.2.2 H5.out.2.1 H5.out.1 (rfl)
        go_wp2_with fail
        go_roundg (13 - (10 + 1))
        case measure => omega
        case rel => exact ⟨11, by omega, rfl, by go_num, K1.out⟩
    · obtain ⟨cs, ⟨hz, hc⟩, hE⟩ := H2.out.1.e11
      obtain ⟨b, rfl, g0, u0, m0, g1, u1, m1⟩ := hE
      have h0 := (HK.out.1.bel.cell (p := ⟨b, 0, none⟩) m0).trans g0
      have l0 := Nat.lt_of_lt_of_le m0 HK.out.1.bel.size
      have h1 := (HK.out.1.bel.cell (p := ⟨b + 1, 0, none⟩) m1).trans g1
      have l1 := Nat.lt_of_lt_of_le m1 HK.out.1.bel.size
      have ht : T < w2.heap.size := H2.out.1.lt.2
      have t0 : wr.cell? ⟨T, 55, none⟩ = some (.int .i64 15) := (HK.out.1.bel.cell (p := ⟨T, 55, none⟩) ht).trans (hc 0 (by decide))
      have t1 : wr.cell? ⟨T, 56, none⟩ = some (.func (.func 110) #[] #[.pointer (some ⟨(b + 1), 0, none⟩), .pointer (some ⟨b, 0, none⟩)]) := (HK.out.1.bel.cell (p := ⟨T, 56, none⟩) ht).trans (hc 1 (by decide))
      have t2 : wr.cell? ⟨T, 57, none⟩ = some (.func (.func 98) #[] #[]) := (HK.out.1.bel.cell (p := ⟨T, 57, none⟩) ht).trans (hc 2 (by decide))
      have t3 : wr.cell? ⟨T, 58, none⟩ = some (.func (.func 111) #[] #[.pointer (some ⟨b, 0, none⟩)]) := (HK.out.1.bel.cell (p := ⟨T, 58, none⟩) ht).trans (hc 3 (by decide))
      have t4 : wr.cell? ⟨T, 59, none⟩ = some (.func (.func 112) #[] #[.pointer (some ⟨b, 0, none⟩)]) := (HK.out.1.bel.cell (p := ⟨T, 59, none⟩) ht).trans (hc 4 (by decide))
      have cx : wr.cell? ⟨w.heap.size, 12, none⟩ = some (.slice d4 p.f.length p4) := by rw [bk_cell HK.out.2.2]; rfl
      have lx : w.heap.size < wr.heap.size := (Array.getElem?_eq_some_iff.1 HK.out.2.2).1
      have B1 : ∀ o, Below wr.heap.size wr (wr.alloc o) := fun o => (Below.refl _ _).alloc (Nat.le_refl _) o
      have CT := alwaysC (wr.alloc (.cells #[.int .i64 15, .func (.func 110) #[] #[.pointer (some ⟨(b + 1), 0, none⟩), .pointer (some ⟨b, 0, none⟩)], .func (.func 98) #[] #[], .func (.func 111) #[] #[.pointer (some ⟨b, 0, none⟩)], .func (.func 112) #[] #[.pointer (some ⟨b, 0, none⟩)]] 105))
      have BA : Below wr.heap.size wr ((wr.alloc (.cells #[.int .i64 15, .func (.func 110) #[] #[.pointer (some ⟨(b + 1), 0, none⟩), .pointer (some ⟨b, 0, none⟩)], .func (.func 98) #[] #[], .func (.func 111) #[] #[.pointer (some ⟨b, 0, none⟩)], .func (.func 112) #[] #[.pointer (some ⟨b, 0, none⟩)]] 105)).drew.alloc (.cells #[.int .i64 15] 3)) := (below_drewN (B1 _) 1).alloc (by show wr.heap.size ≤ (wr.alloc _).heap.size; simp) _
      have C3 := putN1 w2.heap.size u6 (parA p s 11) 15 (wr.heap.size + 1) ((wr.alloc (.cells #[.int .i64 15, .func (.func 110) #[] #[.pointer (some ⟨(b + 1), 0, none⟩), .pointer (some ⟨b, 0, none⟩)], .func (.func 98) #[] #[], .func (.func 111) #[] #[.pointer (some ⟨b, 0, none⟩)], .func (.func 112) #[] #[.pointer (some ⟨b, 0, none⟩)]] 105)).drew.alloc (.cells #[.int .i64 15] 3)) (H0.out.2.2.2.2.2.2.2.2 _ (HK.out.2.1.trans (BA.mono HK.out.2.1.size))) (owns_below HK.out.1.own BA) (Nat.le_trans HK.out.1.bel.size BA.size) (by have := H0.out.2.2.2.2.2.2.1 11 (by decide); omega) (by decide) (by decide) (cell_new (t := 3) (newAt1 _ _ _ (by show (wr.alloc _).heap.size = _; simp)))
      have gB : ((wr.alloc (.cells #[.int .i64 15, .func (.func 110) #[] #[.pointer (some ⟨(b + 1), 0, none⟩), .pointer (some ⟨b, 0, none⟩)], .func (.func 98) #[] #[], .func (.func 111) #[] #[.pointer (some ⟨b, 0, none⟩)], .func (.func 112) #[] #[.pointer (some ⟨b, 0, none⟩)]] 105)).drew.alloc (.cells #[.int .i64 15] 3)).heap[wr.heap.size]? = some (.cells #[.int .i64 15, .func (.func 110) #[] #[.pointer (some ⟨(b + 1), 0, none⟩), .pointer (some ⟨b, 0, none⟩)], .func (.func 98) #[] #[], .func (.func 111) #[] #[.pointer (some ⟨b, 0, none⟩)], .func (.func 112) #[] #[.pointer (some ⟨b, 0, none⟩)]] 105) := (Below.heap_alloc _ _ _ (by show wr.heap.size < (wr.alloc _).heap.size; simp)).trans (heap_alloc_new wr (.cells #[.int .i64 15, .func (.func 110) #[] #[.pointer (some ⟨(b + 1), 0, none⟩), .pointer (some ⟨b, 0, none⟩)], .func (.func 98) #[] #[], .func (.func 111) #[] #[.pointer (some ⟨b, 0, none⟩)], .func (.func 112) #[] #[.pointer (some ⟨b, 0, none⟩)]] 105))
      have HV : Hid _ := And.intro CT (And.intro C3 (And.intro BA (And.intro gB (And.intro h0 (And.intro l0 (And.intro m0 (And.intro cx lx)))))))
      clear CT C3 BA gB hc hz B1 cx h0 u0 l0 g0 m0 h1 u1 l1 g1 m1
      go_wp2_with (go_at_call 98; refine HV.out.1.mono ?_; rintro e w3 ⟨rfl, hw⟩; subst w3)
      have tok1 : True := trivial
      have tok2 : True := trivial
      have cA0 : (wr.alloc (.cells #[.int .i64 15, .func (.func 110) #[] #[.pointer (some ⟨(b + 1), 0, none⟩), .pointer (some ⟨b, 0, none⟩)], .func (.func 98) #[] #[], .func (.func 111) #[] #[.pointer (some ⟨b, 0, none⟩)], .func (.func 112) #[] #[.pointer (some ⟨b, 0, none⟩)]] 105)).cell? ⟨wr.heap.size, 0, none⟩ = some (.int .i64 15) := by rw [bk_cell (heap_alloc_new wr (.cells #[.int .i64 15, .func (.func 110) #[] #[.pointer (some ⟨(b + 1), 0, none⟩), .pointer (some ⟨b, 0, none⟩)], .func (.func 98) #[] #[], .func (.func 111) #[] #[.pointer (some ⟨b, 0, none⟩)], .func (.func 112) #[] #[.pointer (some ⟨b, 0, none⟩)]] 105))]; rfl
      have cA3 : (wr.alloc (.cells #[.int .i64 15, .func (.func 110) #[] #[.pointer (some ⟨(b + 1), 0, none⟩), .pointer (some ⟨b, 0, none⟩)], .func (.func 98) #[] #[], .func (.func 111) #[] #[.pointer (some ⟨b, 0, none⟩)], .func (.func 112) #[] #[.pointer (some ⟨b, 0, none⟩)]] 105)).cell? ⟨wr.heap.size, 3, none⟩ = some (.func (.func 111) #[] #[.pointer (some ⟨b, 0, none⟩)]) := by rw [bk_cell (heap_alloc_new wr (.cells #[.int .i64 15, .func (.func 110) #[] #[.pointer (some ⟨(b + 1), 0, none⟩), .pointer (some ⟨b, 0, none⟩)], .func (.func 98) #[] #[], .func (.func 111) #[] #[.pointer (some ⟨b, 0, none⟩)], .func (.func 112) #[] #[.pointer (some ⟨b, 0, none⟩)]] 105))]; rfl
      go_upto_region 8 with fail
      go_region_held3 (fun w' => w'.cell? ⟨wr.heap.size, 0, none⟩ = some (.int .i64 15) ∧ w'.cell? ⟨wr.heap.size, 3, none⟩ = some (.func (.func 111) #[] #[.pointer (some ⟨b, 0, none⟩)])) (go_keep)
        (first
        | (go_at_call 75; have _t := tok1; refine HV.out.2.1.mono ?_; rintro e w3 ⟨r3, rfl, o3, G3⟩; have k3 := G3.chg.block wr.heap.size (Array.getElem?_eq_some_iff.1 HV.out.2.2.2.1).1 (fun e => by have := (HK.out.1.own.lt _ e).2; omega); have c30 : w3.cell? ⟨wr.heap.size, 0, none⟩ = some (.int .i64 15) := (by rw [bk_cell (k3.trans HV.out.2.2.2.1)]; rfl); have c33 : w3.cell? ⟨wr.heap.size, 3, none⟩ = some (.func (.func 111) #[] #[.pointer (some ⟨b, 0, none⟩)]) := (by rw [bk_cell (k3.trans HV.out.2.2.2.1)]; rfl); have H3 : Hid _ := And.intro o3 (And.intro G3 (And.intro (k3.trans HV.out.2.2.2.1) ((HK.out.1.bel.trans (HV.out.2.2.1.mono HK.out.1.bel.size)).trans (G3.below (owns_below HK.out.1.own HV.out.2.2.1) (Nat.le_trans HK.out.1.bel.size HV.out.2.2.1.size))))); clear o3 G3 k3 tok1)
        | (go_at_call 111; have _t := tok2; have kb : w3.cell? ⟨b, 0, none⟩ = wr.cell? ⟨b, 0, none⟩ := keep_cell H3.out.2.1 HV.out.2.2.1 HK.out.1.own HV.out.2.2.2.2.2.2.1 HV.out.2.2.2.2.2.1; have kg : w3.cell? ⟨w.heap.size, 12, none⟩ = wr.cell? ⟨w.heap.size, 12, none⟩ := keep_cell H3.out.2.1 HV.out.2.2.1 HK.out.1.own (by omega) lx; refine (lstVal b w.heap.size 12 d4 p.f.length p4 w3 (kb.trans HV.out.2.2.2.2.1) (kg.trans HV.out.2.2.2.2.2.2.2.1)).mono ?_; rintro e w4 ⟨rfl, hw4⟩; subst w4; clear kb kg tok2)
        | (go_at_call 53; have al4 : Below w3.heap.size w3 (w3.alloc (.cells #[.slice d4 p.f.length p4] 22)) := (Below.refl _ _).alloc (Nat.le_refl _) _; have B34 : Below w3.heap.size w3 (w3.alloc (.cells #[.slice d4 p.f.length p4] 22)) := (Below.refl w3.heap.size w3).trans (al4.mono (Below.refl w3.heap.size w3).size); refine (putC1 w2.heap.size r3 (.slice d4 p.f.length p4) (parA p s 11 ++ putv 15) (p.f) w3.heap.size (w3.alloc (.cells #[.slice d4 p.f.length p4] 22)) (H0.out.2.2.2.2.2.2.2.2 _ ((H2.out.2.1.trans (H3.out.2.2.2.mono H2.out.2.1.size)).trans (B34.mono (Nat.le_trans H2.out.2.1.size H3.out.2.2.2.size)))) (owns_below H3.out.1 B34) (((H0.out.2.2.2.2.2.1.below H2.out.2.1).below H3.out.2.2.2).below al4) (fun hx k h h2 => by have := own_of_row H0.out.2.2.2.2.2.1 hx h; have := (H3.out.1.lt k h2).1; omega) (Nat.le_trans H3.out.2.2.2.size B34.size) (by have := H0.out.2.2.2.2.2.2.1 11 (by decide); have := putv_le 15 (by decide) (by decide); rw [List.length_append]; omega) (by have := H0.out.2.2.2.2.2.2.2.1.2.2; omega) (laid1 _ _ _)).mono ?_; rintro e w5 ⟨r5, rfl, o5, G5⟩; have k5 := (G5.chg.block wr.heap.size (Nat.lt_of_lt_of_le (Array.getElem?_eq_some_iff.1 H3.out.2.2.1).1 B34.size) (fun e => (H3.out.2.1.loc _ e).elim (fun q => by have := (HK.out.1.own.lt _ q).2; omega) (fun q => by have := (Array.getElem?_eq_some_iff.1 HV.out.2.2.2.1).1; omega))).trans ((B34.block wr.heap.size (Array.getElem?_eq_some_iff.1 H3.out.2.2.1).1).trans H3.out.2.2.1); have c50 : w5.cell? ⟨wr.heap.size, 0, none⟩ = some (.int .i64 15) := (by rw [bk_cell k5]; rfl); have c53 : w5.cell? ⟨wr.heap.size, 3, none⟩ = some (.func (.func 111) #[] #[.pointer (some ⟨b, 0, none⟩)]) := (by rw [bk_cell k5]; rfl); clear k5; have H5 : Hid _ := And.intro o5 (And.intro G5 B34); clear o5 G5 al4 B34))
      all_goals
        have K1 : Hid (OutK w2 w5 r5 p s 12) := HK.out.1.told (k := 11) (num := 15) (ys := p.f) (by decide) HV.out.2.2.1 H3.out.2.1 H5.out.2.2 H5.out.2.1 H5.out.1 (rfl)
        go_wp2_with fail
        go_roundg (13 - (11 + 1))
        case measure => omega
        case rel => exact ⟨12, by omega, rfl, by go_num, K1.out⟩
    · obtain ⟨cs, ⟨hz, hc⟩, hE⟩ := H2.out.1.e12
      obtain ⟨b, rfl, g0, u0, m0, g1, u1, m1, g2, u2, m2⟩ := hE
      have h0 := (HK.out.1.bel.cell (p := ⟨b, 0, none⟩) m0).trans g0
      have l0 := Nat.lt_of_lt_of_le m0 HK.out.1.bel.size
      have h1 := (HK.out.1.bel.cell (p := ⟨b + 1, 0, none⟩) m1).trans g1
      have l1 := Nat.lt_of_lt_of_le m1 HK.out.1.bel.size
      have h2 := (HK.out.1.bel.cell (p := ⟨b + 2, 0, none⟩) m2).trans g2
      have l2 := Nat.lt_of_lt_of_le m2 HK.out.1.bel.size
      have ht : T < w2.heap.size := H2.out.1.lt.2
      have t0 : wr.cell? ⟨T, 60, none⟩ = some (.int .i64 32) := (HK.out.1.bel.cell (p := ⟨T, 60, none⟩) ht).trans (hc 0 (by decide))
      have t1 : wr.cell? ⟨T, 61, none⟩ = some (.func (.func 97) #[] #[.pointer (some ⟨b, 0, none⟩), .pointer (some ⟨(b + 1), 0, none⟩), .pointer (some ⟨(b + 2), 0, none⟩)]) := (HK.out.1.bel.cell (p := ⟨T, 61, none⟩) ht).trans (hc 1 (by decide))
      have t2 : wr.cell? ⟨T, 62, none⟩ = some (.func (.func 98) #[] #[]) := (HK.out.1.bel.cell (p := ⟨T, 62, none⟩) ht).trans (hc 2 (by decide))
      have t3 : wr.cell? ⟨T, 63, none⟩ = some (.func (.func 99) #[] #[.pointer (some ⟨b, 0, none⟩)]) := (HK.out.1.bel.cell (p := ⟨T, 63, none⟩) ht).trans (hc 3 (by decide))
      have t4 : wr.cell? ⟨T, 64, none⟩ = some (.func (.func 100) #[] #[.pointer (some ⟨b, 0, none⟩)]) := (HK.out.1.bel.cell (p := ⟨T, 64, none⟩) ht).trans (hc 4 (by decide))
      have cx : wr.cell? ⟨w.heap.size, 8, none⟩ = some (.int .i64 p.a8) := by rw [bk_cell HK.out.2.2]; rfl
      have lx : w.heap.size < wr.heap.size := (Array.getElem?_eq_some_iff.1 HK.out.2.2).1
      have B1 : ∀ o, Below wr.heap.size wr (wr.alloc o) := fun o => (Below.refl _ _).alloc (Nat.le_refl _) o
      have CT := alwaysC (wr.alloc (.cells #[.int .i64 32, .func (.func 97) #[] #[.pointer (some ⟨b, 0, none⟩), .pointer (some ⟨(b + 1), 0, none⟩), .pointer (some ⟨(b + 2), 0, none⟩)], .func (.func 98) #[] #[], .func (.func 99) #[] #[.pointer (some ⟨b, 0, none⟩)], .func (.func 100) #[] #[.pointer (some ⟨b, 0, none⟩)]] 105))
      have BA : Below wr.heap.size wr ((wr.alloc (.cells #[.int .i64 32, .func (.func 97) #[] #[.pointer (some ⟨b, 0, none⟩), .pointer (some ⟨(b + 1), 0, none⟩), .pointer (some ⟨(b + 2), 0, none⟩)], .func (.func 98) #[] #[], .func (.func 99) #[] #[.pointer (some ⟨b, 0, none⟩)], .func (.func 100) #[] #[.pointer (some ⟨b, 0, none⟩)]] 105)).drew.alloc (.cells #[.int .i64 32] 3)) := (below_drewN (B1 _) 1).alloc (by show wr.heap.size ≤ (wr.alloc _).heap.size; simp) _
      have C3 := putN1 w2.heap.size u6 (parA p s 12) 32 (wr.heap.size + 1) ((wr.alloc (.cells #[.int .i64 32, .func (.func 97) #[] #[.pointer (some ⟨b, 0, none⟩), .pointer (some ⟨(b + 1), 0, none⟩), .pointer (some ⟨(b + 2), 0, none⟩)], .func (.func 98) #[] #[], .func (.func 99) #[] #[.pointer (some ⟨b, 0, none⟩)], .func (.func 100) #[] #[.pointer (some ⟨b, 0, none⟩)]] 105)).drew.alloc (.cells #[.int .i64 32] 3)) (H0.out.2.2.2.2.2.2.2.2 _ (HK.out.2.1.trans (BA.mono HK.out.2.1.size))) (owns_below HK.out.1.own BA) (Nat.le_trans HK.out.1.bel.size BA.size) (by have := H0.out.2.2.2.2.2.2.1 12 (by decide); omega) (by decide) (by decide) (cell_new (t := 3) (newAt1 _ _ _ (by show (wr.alloc _).heap.size = _; simp)))
      have gB : ((wr.alloc (.cells #[.int .i64 32, .func (.func 97) #[] #[.pointer (some ⟨b, 0, none⟩), .pointer (some ⟨(b + 1), 0, none⟩), .pointer (some ⟨(b + 2), 0, none⟩)], .func (.func 98) #[] #[], .func (.func 99) #[] #[.pointer (some ⟨b, 0, none⟩)], .func (.func 100) #[] #[.pointer (some ⟨b, 0, none⟩)]] 105)).drew.alloc (.cells #[.int .i64 32] 3)).heap[wr.heap.size]? = some (.cells #[.int .i64 32, .func (.func 97) #[] #[.pointer (some ⟨b, 0, none⟩), .pointer (some ⟨(b + 1), 0, none⟩), .pointer (some ⟨(b + 2), 0, none⟩)], .func (.func 98) #[] #[], .func (.func 99) #[] #[.pointer (some ⟨b, 0, none⟩)], .func (.func 100) #[] #[.pointer (some ⟨b, 0, none⟩)]] 105) := (Below.heap_alloc _ _ _ (by show wr.heap.size < (wr.alloc _).heap.size; simp)).trans (heap_alloc_new wr (.cells #[.int .i64 32, .func (.func 97) #[] #[.pointer (some ⟨b, 0, none⟩), .pointer (some ⟨(b + 1), 0, none⟩), .pointer (some ⟨(b + 2), 0, none⟩)], .func (.func 98) #[] #[], .func (.func 99) #[] #[.pointer (some ⟨b, 0, none⟩)], .func (.func 100) #[] #[.pointer (some ⟨b, 0, none⟩)]] 105))
      have HV : Hid _ := And.intro CT (And.intro C3 (And.intro BA (And.intro gB (And.intro h0 (And.intro l0 (And.intro m0 (And.intro cx lx)))))))
      clear CT C3 BA gB hc hz B1 cx h0 u0 l0 g0 m0 h1 u1 l1 g1 m1 h2 u2 l2 g2 m2
      go_wp2_with (go_at_call 98; refine HV.out.1.mono ?_; rintro e w3 ⟨rfl, hw⟩; subst w3)
      have tok1 : True := trivial
      have tok2 : True := trivial
      have cA0 : (wr.alloc (.cells #[.int .i64 32, .func (.func 97) #[] #[.pointer (some ⟨b, 0, none⟩), .pointer (some ⟨(b + 1), 0, none⟩), .pointer (some ⟨(b + 2), 0, none⟩)], .func (.func 98) #[] #[], .func (.func 99) #[] #[.pointer (some ⟨b, 0, none⟩)], .func (.func 100) #[] #[.pointer (some ⟨b, 0, none⟩)]] 105)).cell? ⟨wr.heap.size, 0, none⟩ = some (.int .i64 32) := by rw [bk_cell (heap_alloc_new wr (.cells #[.int .i64 32, .func (.func 97) #[] #[.pointer (some ⟨b, 0, none⟩), .pointer (some ⟨(b + 1), 0, none⟩), .pointer (some ⟨(b + 2), 0, none⟩)], .func (.func 98) #[] #[], .func (.func 99) #[] #[.pointer (some ⟨b, 0, none⟩)], .func (.func 100) #[] #[.pointer (some ⟨b, 0, none⟩)]] 105))]; rfl
      have cA3 : (wr.alloc (.cells #[.int .i64 32, .func (.func 97) #[] #[.pointer (some ⟨b, 0, none⟩), .pointer (some ⟨(b + 1), 0, none⟩), .pointer (some ⟨(b + 2), 0, none⟩)], .func (.func 98) #[] #[], .func (.func 99) #[] #[.pointer (some ⟨b, 0, none⟩)], .func (.func 100) #[] #[.pointer (some ⟨b, 0, none⟩)]] 105)).cell? ⟨wr.heap.size, 3, none⟩ = some (.func (.func 99) #[] #[.pointer (some ⟨b, 0, none⟩)]) := by rw [bk_cell (heap_alloc_new wr (.cells #[.int .i64 32, .func (.func 97) #[] #[.pointer (some ⟨b, 0, none⟩), .pointer (some ⟨(b + 1), 0, none⟩), .pointer (some ⟨(b + 2), 0, none⟩)], .func (.func 98) #[] #[], .func (.func 99) #[] #[.pointer (some ⟨b, 0, none⟩)], .func (.func 100) #[] #[.pointer (some ⟨b, 0, none⟩)]] 105))]; rfl
      go_upto_region 8 with fail
      go_region_held3 (fun w' => w'.cell? ⟨wr.heap.size, 0, none⟩ = some (.int .i64 32) ∧ w'.cell? ⟨wr.heap.size, 3, none⟩ = some (.func (.func 99) #[] #[.pointer (some ⟨b, 0, none⟩)])) (go_keep)
        (first
        | (go_at_call 75; have _t := tok1; refine HV.out.2.1.mono ?_; rintro e w3 ⟨r3, rfl, o3, G3⟩; have k3 := G3.chg.block wr.heap.size (Array.getElem?_eq_some_iff.1 HV.out.2.2.2.1).1 (fun e => by have := (HK.out.1.own.lt _ e).2; omega); have c30 : w3.cell? ⟨wr.heap.size, 0, none⟩ = some (.int .i64 32) := (by rw [bk_cell (k3.trans HV.out.2.2.2.1)]; rfl); have c33 : w3.cell? ⟨wr.heap.size, 3, none⟩ = some (.func (.func 99) #[] #[.pointer (some ⟨b, 0, none⟩)]) := (by rw [bk_cell (k3.trans HV.out.2.2.2.1)]; rfl); have H3 : Hid _ := And.intro o3 (And.intro G3 (And.intro (k3.trans HV.out.2.2.2.1) ((HK.out.1.bel.trans (HV.out.2.2.1.mono HK.out.1.bel.size)).trans (G3.below (owns_below HK.out.1.own HV.out.2.2.1) (Nat.le_trans HK.out.1.bel.size HV.out.2.2.1.size))))); clear o3 G3 k3 tok1)
        | (go_at_call 99; have _t := tok2; have kb : w3.cell? ⟨b, 0, none⟩ = wr.cell? ⟨b, 0, none⟩ := keep_cell H3.out.2.1 HV.out.2.2.1 HK.out.1.own HV.out.2.2.2.2.2.2.1 HV.out.2.2.2.2.2.1; have kg : w3.cell? ⟨w.heap.size, 8, none⟩ = wr.cell? ⟨w.heap.size, 8, none⟩ := keep_cell H3.out.2.1 HV.out.2.2.1 HK.out.1.own (by omega) lx; refine (numVal b w.heap.size 8 p.a8 w3 (H0.out.2.2.2.2.2.2.2.2 _ (H2.out.2.1.trans (H3.out.2.2.2.mono H2.out.2.1.size))) (by have := HQ.out.2.2.2.2.2.2.2.2; omega) (by have := HQ.out.2.2.2.2.2.2.2.2; omega) (kb.trans HV.out.2.2.2.2.1) (kg.trans HV.out.2.2.2.2.2.2.2.1)).mono ?_; rintro e w4 ⟨r4, rfl, o4, b4⟩; obtain ⟨a4, q4, er⟩ := (row_of_owns o4).form; subst er; have c40 : w4.cell? ⟨wr.heap.size, 0, none⟩ = some (.int .i64 32) := (by rw [bk_cell ((b4.block wr.heap.size (Array.getElem?_eq_some_iff.1 H3.out.2.2.1).1).trans H3.out.2.2.1)]; rfl); have c43 : w4.cell? ⟨wr.heap.size, 3, none⟩ = some (.func (.func 99) #[] #[.pointer (some ⟨b, 0, none⟩)]) := (by rw [bk_cell ((b4.block wr.heap.size (Array.getElem?_eq_some_iff.1 H3.out.2.2.1).1).trans H3.out.2.2.1)]; rfl); have H4 : Hid _ := And.intro b4 (And.intro (row_of_owns o4) (fun (hx : (putv p.a8) ≠ []) k (e : Value.ownBlock _ = some k) => (o4.lt k e).1)); clear o4 b4 kb kg tok2)
        | (go_at_call 53; have al4 : Below w4.heap.size w4 (w4.alloc (.cells #[.slice a4 (putv p.a8).length q4] 22)) := (Below.refl _ _).alloc (Nat.le_refl _) _; have B34 : Below w3.heap.size w3 (w4.alloc (.cells #[.slice a4 (putv p.a8).length q4] 22)) := H4.out.1.trans (al4.mono H4.out.1.size); refine (putC1 w2.heap.size r3 (.slice a4 (putv p.a8).length q4) (parA p s 12 ++ putv 32) (putv p.a8) w4.heap.size (w4.alloc (.cells #[.slice a4 (putv p.a8).length q4] 22)) (H0.out.2.2.2.2.2.2.2.2 _ ((H2.out.2.1.trans (H3.out.2.2.2.mono H2.out.2.1.size)).trans (B34.mono (Nat.le_trans H2.out.2.1.size H3.out.2.2.2.size)))) (owns_below H3.out.1 B34) (H4.out.2.1.below al4) (fun hx k h h2 => by have := H4.out.2.2 hx k h; have := (H3.out.1.lt k h2).2; omega) (Nat.le_trans H3.out.2.2.2.size B34.size) (by have := H0.out.2.2.2.2.2.2.1 12 (by decide); have := putv_le 32 (by decide) (by decide); rw [List.length_append]; omega) (by have := putv_le p.a8 (by have := HQ.out.2.2.2.2.2.2.2.2; omega) (by have := HQ.out.2.2.2.2.2.2.2.2; omega); omega) (laid1 _ _ _)).mono ?_; rintro e w5 ⟨r5, rfl, o5, G5⟩; have k5 := (G5.chg.block wr.heap.size (Nat.lt_of_lt_of_le (Array.getElem?_eq_some_iff.1 H3.out.2.2.1).1 B34.size) (fun e => (H3.out.2.1.loc _ e).elim (fun q => by have := (HK.out.1.own.lt _ q).2; omega) (fun q => by have := (Array.getElem?_eq_some_iff.1 HV.out.2.2.2.1).1; omega))).trans ((B34.block wr.heap.size (Array.getElem?_eq_some_iff.1 H3.out.2.2.1).1).trans H3.out.2.2.1); have c50 : w5.cell? ⟨wr.heap.size, 0, none⟩ = some (.int .i64 32) := (by rw [bk_cell k5]; rfl); have c53 : w5.cell? ⟨wr.heap.size, 3, none⟩ = some (.func (.func 99) #[] #[.pointer (some ⟨b, 0, none⟩)]) := (by rw [bk_cell k5]; rfl); clear k5; have H5 : Hid _ := And.intro o5 (And.intro G5 B34); clear o5 G5 al4 B34))
      all_goals
        have K1 : Hid (OutK w2 w5 r5 p s 13) := HK.out.1.told (k := 12) (num := 32) (ys := putv p.a8) (by decide) HV.out.2.2.1 H3.out.2.1 H5.out.2.2 H5.out.2.1 H5.out.1 (rfl)
        go_wp2_with fail
        go_roundg (13 - (12 + 1))
        case measure => omega
        case rel => exact ⟨13, by omega, rfl, by go_num, K1.out⟩
end Go.Proofs.YteggfkekgdlecaaGreatDoor
