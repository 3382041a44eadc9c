import Derived.Test.YtpdclbfjngmppaaDoorMem
import Derived.Test.YtpdclbfjngmppaaDoorKeys
import Derived.Test.YtpdclbfjngmppaaDoorBlocks
import Derived.Deep.QuietTactic
import Derived.BigQuiet
namespace Go.Proofs.YtpdclbfjngmppaaDoor
open Go.RowKit
set_option linter.unusedVariables false

/-- What may follow what, as it lies in memory. -/
structure TabF (w : World) : Prop where
  c0 : w.cell? ⟨0, 0, none⟩ = some (.int .u8 18)
  c1 : w.cell? ⟨0, 1, none⟩ = some (.int .u8 20)
  c2 : w.cell? ⟨0, 2, none⟩ = some (.int .u8 8)
  c3 : w.cell? ⟨0, 3, none⟩ = some (.int .u8 0)
  c4 : w.cell? ⟨0, 4, none⟩ = some (.int .u8 32)
  c5 : w.cell? ⟨0, 5, none⟩ = some (.int .u8 0)
  c6 : w.cell? ⟨0, 6, none⟩ = some (.int .u8 22)
  c7 : w.cell? ⟨0, 7, none⟩ = some (.int .u8 20)
  c8 : w.cell? ⟨0, 8, none⟩ = some (.int .u8 24)
  c9 : w.cell? ⟨0, 9, none⟩ = some (.int .u8 0)
  c10 : w.cell? ⟨0, 10, none⟩ = some (.int .u8 32)
  c11 : w.cell? ⟨0, 11, none⟩ = some (.int .u8 0)
theorem TabF.below {w w' : World} {B : Nat} (h : TabF w) (hb : Below B w w') (h0 : 0 < B) : TabF w' :=
  ⟨(hb.cell (p := ⟨0, 0, none⟩) h0).trans h.c0, (hb.cell (p := ⟨0, 1, none⟩) h0).trans h.c1, (hb.cell (p := ⟨0, 2, none⟩) h0).trans h.c2, (hb.cell (p := ⟨0, 3, none⟩) h0).trans h.c3, (hb.cell (p := ⟨0, 4, none⟩) h0).trans h.c4, (hb.cell (p := ⟨0, 5, none⟩) h0).trans h.c5, (hb.cell (p := ⟨0, 6, none⟩) h0).trans h.c6, (hb.cell (p := ⟨0, 7, none⟩) h0).trans h.c7, (hb.cell (p := ⟨0, 8, none⟩) h0).trans h.c8, (hb.cell (p := ⟨0, 9, none⟩) h0).trans h.c9, (hb.cell (p := ⟨0, 10, none⟩) h0).trans h.c10, (hb.cell (p := ⟨0, 11, none⟩) h0).trans h.c11⟩
def mtV (p s x : Nat) : Bool := ([18, 20, 8, 0, 32, 0, 22, 20, 24, 0, 32, 0].getD (p * 6 + s) 0 >>> x) % 2 == 1
set_option maxRecDepth 20000 in
theorem mt001 (w : World) (ht : TabF w) (h0 : 0 < w.heap.size) : Calls Tryd.prog 39 #[.agg #[.int .i64 0, .int .i64 0], .int .i64 1] w fun e w' => e = .returned (.bool true) ∧ Below w.heap.size w w' := by
  have B0 : Below w.heap.size w (w.alloc (.cells #[.int .i64 0, .int .i64 0] 56)) := (Below.refl _ _).alloc (Nat.le_refl _) _
  have c := (B0.cell (p := ⟨0, 0, none⟩) h0).trans ht.c0
  have HB : Hid _ := And.intro B0 True.intro
  clear B0 ht
  go_enter Tryd.func39, Tryd.ntmps39
  go_wp2_with fail
  go_quiet (fail)
  go_wp2
  go_ret
  exact ⟨rfl, below_drewN HB.out.1 nq⟩
set_option maxRecDepth 20000 in
theorem mt002 (w : World) (ht : TabF w) (h0 : 0 < w.heap.size) : Calls Tryd.prog 39 #[.agg #[.int .i64 0, .int .i64 0], .int .i64 2] w fun e w' => e = .returned (.bool false) ∧ Below w.heap.size w w' := by
  have B0 : Below w.heap.size w (w.alloc (.cells #[.int .i64 0, .int .i64 0] 56)) := (Below.refl _ _).alloc (Nat.le_refl _) _
  have c := (B0.cell (p := ⟨0, 0, none⟩) h0).trans ht.c0
  have HB : Hid _ := And.intro B0 True.intro
  clear B0 ht
  go_enter Tryd.func39, Tryd.ntmps39
  go_wp2_with fail
  go_quiet (fail)
  go_wp2
  go_ret
  exact ⟨rfl, below_drewN HB.out.1 nq⟩
set_option maxRecDepth 20000 in
theorem mt003 (w : World) (ht : TabF w) (h0 : 0 < w.heap.size) : Calls Tryd.prog 39 #[.agg #[.int .i64 0, .int .i64 0], .int .i64 3] w fun e w' => e = .returned (.bool false) ∧ Below w.heap.size w w' := by
  have B0 : Below w.heap.size w (w.alloc (.cells #[.int .i64 0, .int .i64 0] 56)) := (Below.refl _ _).alloc (Nat.le_refl _) _
  have c := (B0.cell (p := ⟨0, 0, none⟩) h0).trans ht.c0
  have HB : Hid _ := And.intro B0 True.intro
  clear B0 ht
  go_enter Tryd.func39, Tryd.ntmps39
  go_wp2_with fail
  go_quiet (fail)
  go_wp2
  go_ret
  exact ⟨rfl, below_drewN HB.out.1 nq⟩
set_option maxRecDepth 20000 in
theorem mt004 (w : World) (ht : TabF w) (h0 : 0 < w.heap.size) : Calls Tryd.prog 39 #[.agg #[.int .i64 0, .int .i64 0], .int .i64 4] w fun e w' => e = .returned (.bool true) ∧ Below w.heap.size w w' := by
  have B0 : Below w.heap.size w (w.alloc (.cells #[.int .i64 0, .int .i64 0] 56)) := (Below.refl _ _).alloc (Nat.le_refl _) _
  have c := (B0.cell (p := ⟨0, 0, none⟩) h0).trans ht.c0
  have HB : Hid _ := And.intro B0 True.intro
  clear B0 ht
  go_enter Tryd.func39, Tryd.ntmps39
  go_wp2_with fail
  go_quiet (fail)
  go_wp2
  go_ret
  exact ⟨rfl, below_drewN HB.out.1 nq⟩
set_option maxRecDepth 20000 in
theorem mt005 (w : World) (ht : TabF w) (h0 : 0 < w.heap.size) : Calls Tryd.prog 39 #[.agg #[.int .i64 0, .int .i64 0], .int .i64 5] w fun e w' => e = .returned (.bool false) ∧ Below w.heap.size w w' := by
  have B0 : Below w.heap.size w (w.alloc (.cells #[.int .i64 0, .int .i64 0] 56)) := (Below.refl _ _).alloc (Nat.le_refl _) _
  have c := (B0.cell (p := ⟨0, 0, none⟩) h0).trans ht.c0
  have HB : Hid _ := And.intro B0 True.intro
  clear B0 ht
  go_enter Tryd.func39, Tryd.ntmps39
  go_wp2_with fail
  go_quiet (fail)
  go_wp2
  go_ret
  exact ⟨rfl, below_drewN HB.out.1 nq⟩
set_option maxRecDepth 20000 in
theorem mt011 (w : World) (ht : TabF w) (h0 : 0 < w.heap.size) : Calls Tryd.prog 39 #[.agg #[.int .i64 0, .int .i64 1], .int .i64 1] w fun e w' => e = .returned (.bool false) ∧ Below w.heap.size w w' := by
  have B0 : Below w.heap.size w (w.alloc (.cells #[.int .i64 0, .int .i64 1] 56)) := (Below.refl _ _).alloc (Nat.le_refl _) _
  have c := (B0.cell (p := ⟨0, 1, none⟩) h0).trans ht.c1
  have HB : Hid _ := And.intro B0 True.intro
  clear B0 ht
  go_enter Tryd.func39, Tryd.ntmps39
  go_wp2_with fail
  go_quiet (fail)
  go_wp2
  go_ret
  exact ⟨rfl, below_drewN HB.out.1 nq⟩
set_option maxRecDepth 20000 in
theorem mt012 (w : World) (ht : TabF w) (h0 : 0 < w.heap.size) : Calls Tryd.prog 39 #[.agg #[.int .i64 0, .int .i64 1], .int .i64 2] w fun e w' => e = .returned (.bool true) ∧ Below w.heap.size w w' := by
  have B0 : Below w.heap.size w (w.alloc (.cells #[.int .i64 0, .int .i64 1] 56)) := (Below.refl _ _).alloc (Nat.le_refl _) _
  have c := (B0.cell (p := ⟨0, 1, none⟩) h0).trans ht.c1
  have HB : Hid _ := And.intro B0 True.intro
  clear B0 ht
  go_enter Tryd.func39, Tryd.ntmps39
  go_wp2_with fail
  go_quiet (fail)
  go_wp2
  go_ret
  exact ⟨rfl, below_drewN HB.out.1 nq⟩
set_option maxRecDepth 20000 in
theorem mt013 (w : World) (ht : TabF w) (h0 : 0 < w.heap.size) : Calls Tryd.prog 39 #[.agg #[.int .i64 0, .int .i64 1], .int .i64 3] w fun e w' => e = .returned (.bool false) ∧ Below w.heap.size w w' := by
  have B0 : Below w.heap.size w (w.alloc (.cells #[.int .i64 0, .int .i64 1] 56)) := (Below.refl _ _).alloc (Nat.le_refl _) _
  have c := (B0.cell (p := ⟨0, 1, none⟩) h0).trans ht.c1
  have HB : Hid _ := And.intro B0 True.intro
  clear B0 ht
  go_enter Tryd.func39, Tryd.ntmps39
  go_wp2_with fail
  go_quiet (fail)
  go_wp2
  go_ret
  exact ⟨rfl, below_drewN HB.out.1 nq⟩
set_option maxRecDepth 20000 in
theorem mt014 (w : World) (ht : TabF w) (h0 : 0 < w.heap.size) : Calls Tryd.prog 39 #[.agg #[.int .i64 0, .int .i64 1], .int .i64 4] w fun e w' => e = .returned (.bool true) ∧ Below w.heap.size w w' := by
  have B0 : Below w.heap.size w (w.alloc (.cells #[.int .i64 0, .int .i64 1] 56)) := (Below.refl _ _).alloc (Nat.le_refl _) _
  have c := (B0.cell (p := ⟨0, 1, none⟩) h0).trans ht.c1
  have HB : Hid _ := And.intro B0 True.intro
  clear B0 ht
  go_enter Tryd.func39, Tryd.ntmps39
  go_wp2_with fail
  go_quiet (fail)
  go_wp2
  go_ret
  exact ⟨rfl, below_drewN HB.out.1 nq⟩
set_option maxRecDepth 20000 in
theorem mt015 (w : World) (ht : TabF w) (h0 : 0 < w.heap.size) : Calls Tryd.prog 39 #[.agg #[.int .i64 0, .int .i64 1], .int .i64 5] w fun e w' => e = .returned (.bool false) ∧ Below w.heap.size w w' := by
  have B0 : Below w.heap.size w (w.alloc (.cells #[.int .i64 0, .int .i64 1] 56)) := (Below.refl _ _).alloc (Nat.le_refl _) _
  have c := (B0.cell (p := ⟨0, 1, none⟩) h0).trans ht.c1
  have HB : Hid _ := And.intro B0 True.intro
  clear B0 ht
  go_enter Tryd.func39, Tryd.ntmps39
  go_wp2_with fail
  go_quiet (fail)
  go_wp2
  go_ret
  exact ⟨rfl, below_drewN HB.out.1 nq⟩
set_option maxRecDepth 20000 in
theorem mt021 (w : World) (ht : TabF w) (h0 : 0 < w.heap.size) : Calls Tryd.prog 39 #[.agg #[.int .i64 0, .int .i64 2], .int .i64 1] w fun e w' => e = .returned (.bool false) ∧ Below w.heap.size w w' := by
  have B0 : Below w.heap.size w (w.alloc (.cells #[.int .i64 0, .int .i64 2] 56)) := (Below.refl _ _).alloc (Nat.le_refl _) _
  have c := (B0.cell (p := ⟨0, 2, none⟩) h0).trans ht.c2
  have HB : Hid _ := And.intro B0 True.intro
  clear B0 ht
  go_enter Tryd.func39, Tryd.ntmps39
  go_wp2_with fail
  go_quiet (fail)
  go_wp2
  go_ret
  exact ⟨rfl, below_drewN HB.out.1 nq⟩
set_option maxRecDepth 20000 in
theorem mt022 (w : World) (ht : TabF w) (h0 : 0 < w.heap.size) : Calls Tryd.prog 39 #[.agg #[.int .i64 0, .int .i64 2], .int .i64 2] w fun e w' => e = .returned (.bool false) ∧ Below w.heap.size w w' := by
  have B0 : Below w.heap.size w (w.alloc (.cells #[.int .i64 0, .int .i64 2] 56)) := (Below.refl _ _).alloc (Nat.le_refl _) _
  have c := (B0.cell (p := ⟨0, 2, none⟩) h0).trans ht.c2
  have HB : Hid _ := And.intro B0 True.intro
  clear B0 ht
  go_enter Tryd.func39, Tryd.ntmps39
  go_wp2_with fail
  go_quiet (fail)
  go_wp2
  go_ret
  exact ⟨rfl, below_drewN HB.out.1 nq⟩
set_option maxRecDepth 20000 in
theorem mt023 (w : World) (ht : TabF w) (h0 : 0 < w.heap.size) : Calls Tryd.prog 39 #[.agg #[.int .i64 0, .int .i64 2], .int .i64 3] w fun e w' => e = .returned (.bool true) ∧ Below w.heap.size w w' := by
  have B0 : Below w.heap.size w (w.alloc (.cells #[.int .i64 0, .int .i64 2] 56)) := (Below.refl _ _).alloc (Nat.le_refl _) _
  have c := (B0.cell (p := ⟨0, 2, none⟩) h0).trans ht.c2
  have HB : Hid _ := And.intro B0 True.intro
  clear B0 ht
  go_enter Tryd.func39, Tryd.ntmps39
  go_wp2_with fail
  go_quiet (fail)
  go_wp2
  go_ret
  exact ⟨rfl, below_drewN HB.out.1 nq⟩
set_option maxRecDepth 20000 in
theorem mt024 (w : World) (ht : TabF w) (h0 : 0 < w.heap.size) : Calls Tryd.prog 39 #[.agg #[.int .i64 0, .int .i64 2], .int .i64 4] w fun e w' => e = .returned (.bool false) ∧ Below w.heap.size w w' := by
  have B0 : Below w.heap.size w (w.alloc (.cells #[.int .i64 0, .int .i64 2] 56)) := (Below.refl _ _).alloc (Nat.le_refl _) _
  have c := (B0.cell (p := ⟨0, 2, none⟩) h0).trans ht.c2
  have HB : Hid _ := And.intro B0 True.intro
  clear B0 ht
  go_enter Tryd.func39, Tryd.ntmps39
  go_wp2_with fail
  go_quiet (fail)
  go_wp2
  go_ret
  exact ⟨rfl, below_drewN HB.out.1 nq⟩
set_option maxRecDepth 20000 in
theorem mt025 (w : World) (ht : TabF w) (h0 : 0 < w.heap.size) : Calls Tryd.prog 39 #[.agg #[.int .i64 0, .int .i64 2], .int .i64 5] w fun e w' => e = .returned (.bool false) ∧ Below w.heap.size w w' := by
  have B0 : Below w.heap.size w (w.alloc (.cells #[.int .i64 0, .int .i64 2] 56)) := (Below.refl _ _).alloc (Nat.le_refl _) _
  have c := (B0.cell (p := ⟨0, 2, none⟩) h0).trans ht.c2
  have HB : Hid _ := And.intro B0 True.intro
  clear B0 ht
  go_enter Tryd.func39, Tryd.ntmps39
  go_wp2_with fail
  go_quiet (fail)
  go_wp2
  go_ret
  exact ⟨rfl, below_drewN HB.out.1 nq⟩
set_option maxRecDepth 20000 in
theorem mt031 (w : World) (ht : TabF w) (h0 : 0 < w.heap.size) : Calls Tryd.prog 39 #[.agg #[.int .i64 0, .int .i64 3], .int .i64 1] w fun e w' => e = .returned (.bool false) ∧ Below w.heap.size w w' := by
  have B0 : Below w.heap.size w (w.alloc (.cells #[.int .i64 0, .int .i64 3] 56)) := (Below.refl _ _).alloc (Nat.le_refl _) _
  have c := (B0.cell (p := ⟨0, 3, none⟩) h0).trans ht.c3
  have HB : Hid _ := And.intro B0 True.intro
  clear B0 ht
  go_enter Tryd.func39, Tryd.ntmps39
  go_wp2_with fail
  go_quiet (fail)
  go_wp2
  go_ret
  exact ⟨rfl, below_drewN HB.out.1 nq⟩
set_option maxRecDepth 20000 in
theorem mt032 (w : World) (ht : TabF w) (h0 : 0 < w.heap.size) : Calls Tryd.prog 39 #[.agg #[.int .i64 0, .int .i64 3], .int .i64 2] w fun e w' => e = .returned (.bool false) ∧ Below w.heap.size w w' := by
  have B0 : Below w.heap.size w (w.alloc (.cells #[.int .i64 0, .int .i64 3] 56)) := (Below.refl _ _).alloc (Nat.le_refl _) _
  have c := (B0.cell (p := ⟨0, 3, none⟩) h0).trans ht.c3
  have HB : Hid _ := And.intro B0 True.intro
  clear B0 ht
  go_enter Tryd.func39, Tryd.ntmps39
  go_wp2_with fail
  go_quiet (fail)
  go_wp2
  go_ret
  exact ⟨rfl, below_drewN HB.out.1 nq⟩
set_option maxRecDepth 20000 in
theorem mt033 (w : World) (ht : TabF w) (h0 : 0 < w.heap.size) : Calls Tryd.prog 39 #[.agg #[.int .i64 0, .int .i64 3], .int .i64 3] w fun e w' => e = .returned (.bool false) ∧ Below w.heap.size w w' := by
  have B0 : Below w.heap.size w (w.alloc (.cells #[.int .i64 0, .int .i64 3] 56)) := (Below.refl _ _).alloc (Nat.le_refl _) _
  have c := (B0.cell (p := ⟨0, 3, none⟩) h0).trans ht.c3
  have HB : Hid _ := And.intro B0 True.intro
  clear B0 ht
  go_enter Tryd.func39, Tryd.ntmps39
  go_wp2_with fail
  go_quiet (fail)
  go_wp2
  go_ret
  exact ⟨rfl, below_drewN HB.out.1 nq⟩
set_option maxRecDepth 20000 in
theorem mt034 (w : World) (ht : TabF w) (h0 : 0 < w.heap.size) : Calls Tryd.prog 39 #[.agg #[.int .i64 0, .int .i64 3], .int .i64 4] w fun e w' => e = .returned (.bool false) ∧ Below w.heap.size w w' := by
  have B0 : Below w.heap.size w (w.alloc (.cells #[.int .i64 0, .int .i64 3] 56)) := (Below.refl _ _).alloc (Nat.le_refl _) _
  have c := (B0.cell (p := ⟨0, 3, none⟩) h0).trans ht.c3
  have HB : Hid _ := And.intro B0 True.intro
  clear B0 ht
  go_enter Tryd.func39, Tryd.ntmps39
  go_wp2_with fail
  go_quiet (fail)
  go_wp2
  go_ret
  exact ⟨rfl, below_drewN HB.out.1 nq⟩
set_option maxRecDepth 20000 in
theorem mt035 (w : World) (ht : TabF w) (h0 : 0 < w.heap.size) : Calls Tryd.prog 39 #[.agg #[.int .i64 0, .int .i64 3], .int .i64 5] w fun e w' => e = .returned (.bool false) ∧ Below w.heap.size w w' := by
  have B0 : Below w.heap.size w (w.alloc (.cells #[.int .i64 0, .int .i64 3] 56)) := (Below.refl _ _).alloc (Nat.le_refl _) _
  have c := (B0.cell (p := ⟨0, 3, none⟩) h0).trans ht.c3
  have HB : Hid _ := And.intro B0 True.intro
  clear B0 ht
  go_enter Tryd.func39, Tryd.ntmps39
  go_wp2_with fail
  go_quiet (fail)
  go_wp2
  go_ret
  exact ⟨rfl, below_drewN HB.out.1 nq⟩
set_option maxRecDepth 20000 in
theorem mt041 (w : World) (ht : TabF w) (h0 : 0 < w.heap.size) : Calls Tryd.prog 39 #[.agg #[.int .i64 0, .int .i64 4], .int .i64 1] w fun e w' => e = .returned (.bool false) ∧ Below w.heap.size w w' := by
  have B0 : Below w.heap.size w (w.alloc (.cells #[.int .i64 0, .int .i64 4] 56)) := (Below.refl _ _).alloc (Nat.le_refl _) _
  have c := (B0.cell (p := ⟨0, 4, none⟩) h0).trans ht.c4
  have HB : Hid _ := And.intro B0 True.intro
  clear B0 ht
  go_enter Tryd.func39, Tryd.ntmps39
  go_wp2_with fail
  go_quiet (fail)
  go_wp2
  go_ret
  exact ⟨rfl, below_drewN HB.out.1 nq⟩
set_option maxRecDepth 20000 in
theorem mt042 (w : World) (ht : TabF w) (h0 : 0 < w.heap.size) : Calls Tryd.prog 39 #[.agg #[.int .i64 0, .int .i64 4], .int .i64 2] w fun e w' => e = .returned (.bool false) ∧ Below w.heap.size w w' := by
  have B0 : Below w.heap.size w (w.alloc (.cells #[.int .i64 0, .int .i64 4] 56)) := (Below.refl _ _).alloc (Nat.le_refl _) _
  have c := (B0.cell (p := ⟨0, 4, none⟩) h0).trans ht.c4
  have HB : Hid _ := And.intro B0 True.intro
  clear B0 ht
  go_enter Tryd.func39, Tryd.ntmps39
  go_wp2_with fail
  go_quiet (fail)
  go_wp2
  go_ret
  exact ⟨rfl, below_drewN HB.out.1 nq⟩
set_option maxRecDepth 20000 in
theorem mt043 (w : World) (ht : TabF w) (h0 : 0 < w.heap.size) : Calls Tryd.prog 39 #[.agg #[.int .i64 0, .int .i64 4], .int .i64 3] w fun e w' => e = .returned (.bool false) ∧ Below w.heap.size w w' := by
  have B0 : Below w.heap.size w (w.alloc (.cells #[.int .i64 0, .int .i64 4] 56)) := (Below.refl _ _).alloc (Nat.le_refl _) _
  have c := (B0.cell (p := ⟨0, 4, none⟩) h0).trans ht.c4
  have HB : Hid _ := And.intro B0 True.intro
  clear B0 ht
  go_enter Tryd.func39, Tryd.ntmps39
  go_wp2_with fail
  go_quiet (fail)
  go_wp2
  go_ret
  exact ⟨rfl, below_drewN HB.out.1 nq⟩
set_option maxRecDepth 20000 in
theorem mt044 (w : World) (ht : TabF w) (h0 : 0 < w.heap.size) : Calls Tryd.prog 39 #[.agg #[.int .i64 0, .int .i64 4], .int .i64 4] w fun e w' => e = .returned (.bool false) ∧ Below w.heap.size w w' := by
  have B0 : Below w.heap.size w (w.alloc (.cells #[.int .i64 0, .int .i64 4] 56)) := (Below.refl _ _).alloc (Nat.le_refl _) _
  have c := (B0.cell (p := ⟨0, 4, none⟩) h0).trans ht.c4
  have HB : Hid _ := And.intro B0 True.intro
  clear B0 ht
  go_enter Tryd.func39, Tryd.ntmps39
  go_wp2_with fail
  go_quiet (fail)
  go_wp2
  go_ret
  exact ⟨rfl, below_drewN HB.out.1 nq⟩
set_option maxRecDepth 20000 in
theorem mt045 (w : World) (ht : TabF w) (h0 : 0 < w.heap.size) : Calls Tryd.prog 39 #[.agg #[.int .i64 0, .int .i64 4], .int .i64 5] w fun e w' => e = .returned (.bool true) ∧ Below w.heap.size w w' := by
  have B0 : Below w.heap.size w (w.alloc (.cells #[.int .i64 0, .int .i64 4] 56)) := (Below.refl _ _).alloc (Nat.le_refl _) _
  have c := (B0.cell (p := ⟨0, 4, none⟩) h0).trans ht.c4
  have HB : Hid _ := And.intro B0 True.intro
  clear B0 ht
  go_enter Tryd.func39, Tryd.ntmps39
  go_wp2_with fail
  go_quiet (fail)
  go_wp2
  go_ret
  exact ⟨rfl, below_drewN HB.out.1 nq⟩
set_option maxRecDepth 20000 in
theorem mt051 (w : World) (ht : TabF w) (h0 : 0 < w.heap.size) : Calls Tryd.prog 39 #[.agg #[.int .i64 0, .int .i64 5], .int .i64 1] w fun e w' => e = .returned (.bool false) ∧ Below w.heap.size w w' := by
  have B0 : Below w.heap.size w (w.alloc (.cells #[.int .i64 0, .int .i64 5] 56)) := (Below.refl _ _).alloc (Nat.le_refl _) _
  have c := (B0.cell (p := ⟨0, 5, none⟩) h0).trans ht.c5
  have HB : Hid _ := And.intro B0 True.intro
  clear B0 ht
  go_enter Tryd.func39, Tryd.ntmps39
  go_wp2_with fail
  go_quiet (fail)
  go_wp2
  go_ret
  exact ⟨rfl, below_drewN HB.out.1 nq⟩
set_option maxRecDepth 20000 in
theorem mt052 (w : World) (ht : TabF w) (h0 : 0 < w.heap.size) : Calls Tryd.prog 39 #[.agg #[.int .i64 0, .int .i64 5], .int .i64 2] w fun e w' => e = .returned (.bool false) ∧ Below w.heap.size w w' := by
  have B0 : Below w.heap.size w (w.alloc (.cells #[.int .i64 0, .int .i64 5] 56)) := (Below.refl _ _).alloc (Nat.le_refl _) _
  have c := (B0.cell (p := ⟨0, 5, none⟩) h0).trans ht.c5
  have HB : Hid _ := And.intro B0 True.intro
  clear B0 ht
  go_enter Tryd.func39, Tryd.ntmps39
  go_wp2_with fail
  go_quiet (fail)
  go_wp2
  go_ret
  exact ⟨rfl, below_drewN HB.out.1 nq⟩
set_option maxRecDepth 20000 in
theorem mt053 (w : World) (ht : TabF w) (h0 : 0 < w.heap.size) : Calls Tryd.prog 39 #[.agg #[.int .i64 0, .int .i64 5], .int .i64 3] w fun e w' => e = .returned (.bool false) ∧ Below w.heap.size w w' := by
  have B0 : Below w.heap.size w (w.alloc (.cells #[.int .i64 0, .int .i64 5] 56)) := (Below.refl _ _).alloc (Nat.le_refl _) _
  have c := (B0.cell (p := ⟨0, 5, none⟩) h0).trans ht.c5
  have HB : Hid _ := And.intro B0 True.intro
  clear B0 ht
  go_enter Tryd.func39, Tryd.ntmps39
  go_wp2_with fail
  go_quiet (fail)
  go_wp2
  go_ret
  exact ⟨rfl, below_drewN HB.out.1 nq⟩
set_option maxRecDepth 20000 in
theorem mt054 (w : World) (ht : TabF w) (h0 : 0 < w.heap.size) : Calls Tryd.prog 39 #[.agg #[.int .i64 0, .int .i64 5], .int .i64 4] w fun e w' => e = .returned (.bool false) ∧ Below w.heap.size w w' := by
  have B0 : Below w.heap.size w (w.alloc (.cells #[.int .i64 0, .int .i64 5] 56)) := (Below.refl _ _).alloc (Nat.le_refl _) _
  have c := (B0.cell (p := ⟨0, 5, none⟩) h0).trans ht.c5
  have HB : Hid _ := And.intro B0 True.intro
  clear B0 ht
  go_enter Tryd.func39, Tryd.ntmps39
  go_wp2_with fail
  go_quiet (fail)
  go_wp2
  go_ret
  exact ⟨rfl, below_drewN HB.out.1 nq⟩
set_option maxRecDepth 20000 in
theorem mt055 (w : World) (ht : TabF w) (h0 : 0 < w.heap.size) : Calls Tryd.prog 39 #[.agg #[.int .i64 0, .int .i64 5], .int .i64 5] w fun e w' => e = .returned (.bool false) ∧ Below w.heap.size w w' := by
  have B0 : Below w.heap.size w (w.alloc (.cells #[.int .i64 0, .int .i64 5] 56)) := (Below.refl _ _).alloc (Nat.le_refl _) _
  have c := (B0.cell (p := ⟨0, 5, none⟩) h0).trans ht.c5
  have HB : Hid _ := And.intro B0 True.intro
  clear B0 ht
  go_enter Tryd.func39, Tryd.ntmps39
  go_wp2_with fail
  go_quiet (fail)
  go_wp2
  go_ret
  exact ⟨rfl, below_drewN HB.out.1 nq⟩
set_option maxRecDepth 20000 in
theorem mt101 (w : World) (ht : TabF w) (h0 : 0 < w.heap.size) : Calls Tryd.prog 39 #[.agg #[.int .i64 1, .int .i64 0], .int .i64 1] w fun e w' => e = .returned (.bool true) ∧ Below w.heap.size w w' := by
  have B0 : Below w.heap.size w (w.alloc (.cells #[.int .i64 1, .int .i64 0] 56)) := (Below.refl _ _).alloc (Nat.le_refl _) _
  have c := (B0.cell (p := ⟨0, 6, none⟩) h0).trans ht.c6
  have HB : Hid _ := And.intro B0 True.intro
  clear B0 ht
  go_enter Tryd.func39, Tryd.ntmps39
  go_wp2_with fail
  go_quiet (fail)
  go_wp2
  go_ret
  exact ⟨rfl, below_drewN HB.out.1 nq⟩
set_option maxRecDepth 20000 in
theorem mt102 (w : World) (ht : TabF w) (h0 : 0 < w.heap.size) : Calls Tryd.prog 39 #[.agg #[.int .i64 1, .int .i64 0], .int .i64 2] w fun e w' => e = .returned (.bool true) ∧ Below w.heap.size w w' := by
  have B0 : Below w.heap.size w (w.alloc (.cells #[.int .i64 1, .int .i64 0] 56)) := (Below.refl _ _).alloc (Nat.le_refl _) _
  have c := (B0.cell (p := ⟨0, 6, none⟩) h0).trans ht.c6
  have HB : Hid _ := And.intro B0 True.intro
  clear B0 ht
  go_enter Tryd.func39, Tryd.ntmps39
  go_wp2_with fail
  go_quiet (fail)
  go_wp2
  go_ret
  exact ⟨rfl, below_drewN HB.out.1 nq⟩
set_option maxRecDepth 20000 in
theorem mt103 (w : World) (ht : TabF w) (h0 : 0 < w.heap.size) : Calls Tryd.prog 39 #[.agg #[.int .i64 1, .int .i64 0], .int .i64 3] w fun e w' => e = .returned (.bool false) ∧ Below w.heap.size w w' := by
  have B0 : Below w.heap.size w (w.alloc (.cells #[.int .i64 1, .int .i64 0] 56)) := (Below.refl _ _).alloc (Nat.le_refl _) _
  have c := (B0.cell (p := ⟨0, 6, none⟩) h0).trans ht.c6
  have HB : Hid _ := And.intro B0 True.intro
  clear B0 ht
  go_enter Tryd.func39, Tryd.ntmps39
  go_wp2_with fail
  go_quiet (fail)
  go_wp2
  go_ret
  exact ⟨rfl, below_drewN HB.out.1 nq⟩
set_option maxRecDepth 20000 in
theorem mt104 (w : World) (ht : TabF w) (h0 : 0 < w.heap.size) : Calls Tryd.prog 39 #[.agg #[.int .i64 1, .int .i64 0], .int .i64 4] w fun e w' => e = .returned (.bool true) ∧ Below w.heap.size w w' := by
  have B0 : Below w.heap.size w (w.alloc (.cells #[.int .i64 1, .int .i64 0] 56)) := (Below.refl _ _).alloc (Nat.le_refl _) _
  have c := (B0.cell (p := ⟨0, 6, none⟩) h0).trans ht.c6
  have HB : Hid _ := And.intro B0 True.intro
  clear B0 ht
  go_enter Tryd.func39, Tryd.ntmps39
  go_wp2_with fail
  go_quiet (fail)
  go_wp2
  go_ret
  exact ⟨rfl, below_drewN HB.out.1 nq⟩
set_option maxRecDepth 20000 in
theorem mt105 (w : World) (ht : TabF w) (h0 : 0 < w.heap.size) : Calls Tryd.prog 39 #[.agg #[.int .i64 1, .int .i64 0], .int .i64 5] w fun e w' => e = .returned (.bool false) ∧ Below w.heap.size w w' := by
  have B0 : Below w.heap.size w (w.alloc (.cells #[.int .i64 1, .int .i64 0] 56)) := (Below.refl _ _).alloc (Nat.le_refl _) _
  have c := (B0.cell (p := ⟨0, 6, none⟩) h0).trans ht.c6
  have HB : Hid _ := And.intro B0 True.intro
  clear B0 ht
  go_enter Tryd.func39, Tryd.ntmps39
  go_wp2_with fail
  go_quiet (fail)
  go_wp2
  go_ret
  exact ⟨rfl, below_drewN HB.out.1 nq⟩
set_option maxRecDepth 20000 in
theorem mt111 (w : World) (ht : TabF w) (h0 : 0 < w.heap.size) : Calls Tryd.prog 39 #[.agg #[.int .i64 1, .int .i64 1], .int .i64 1] w fun e w' => e = .returned (.bool false) ∧ Below w.heap.size w w' := by
  have B0 : Below w.heap.size w (w.alloc (.cells #[.int .i64 1, .int .i64 1] 56)) := (Below.refl _ _).alloc (Nat.le_refl _) _
  have c := (B0.cell (p := ⟨0, 7, none⟩) h0).trans ht.c7
  have HB : Hid _ := And.intro B0 True.intro
  clear B0 ht
  go_enter Tryd.func39, Tryd.ntmps39
  go_wp2_with fail
  go_quiet (fail)
  go_wp2
  go_ret
  exact ⟨rfl, below_drewN HB.out.1 nq⟩
set_option maxRecDepth 20000 in
theorem mt112 (w : World) (ht : TabF w) (h0 : 0 < w.heap.size) : Calls Tryd.prog 39 #[.agg #[.int .i64 1, .int .i64 1], .int .i64 2] w fun e w' => e = .returned (.bool true) ∧ Below w.heap.size w w' := by
  have B0 : Below w.heap.size w (w.alloc (.cells #[.int .i64 1, .int .i64 1] 56)) := (Below.refl _ _).alloc (Nat.le_refl _) _
  have c := (B0.cell (p := ⟨0, 7, none⟩) h0).trans ht.c7
  have HB : Hid _ := And.intro B0 True.intro
  clear B0 ht
  go_enter Tryd.func39, Tryd.ntmps39
  go_wp2_with fail
  go_quiet (fail)
  go_wp2
  go_ret
  exact ⟨rfl, below_drewN HB.out.1 nq⟩
set_option maxRecDepth 20000 in
theorem mt113 (w : World) (ht : TabF w) (h0 : 0 < w.heap.size) : Calls Tryd.prog 39 #[.agg #[.int .i64 1, .int .i64 1], .int .i64 3] w fun e w' => e = .returned (.bool false) ∧ Below w.heap.size w w' := by
  have B0 : Below w.heap.size w (w.alloc (.cells #[.int .i64 1, .int .i64 1] 56)) := (Below.refl _ _).alloc (Nat.le_refl _) _
  have c := (B0.cell (p := ⟨0, 7, none⟩) h0).trans ht.c7
  have HB : Hid _ := And.intro B0 True.intro
  clear B0 ht
  go_enter Tryd.func39, Tryd.ntmps39
  go_wp2_with fail
  go_quiet (fail)
  go_wp2
  go_ret
  exact ⟨rfl, below_drewN HB.out.1 nq⟩
set_option maxRecDepth 20000 in
theorem mt114 (w : World) (ht : TabF w) (h0 : 0 < w.heap.size) : Calls Tryd.prog 39 #[.agg #[.int .i64 1, .int .i64 1], .int .i64 4] w fun e w' => e = .returned (.bool true) ∧ Below w.heap.size w w' := by
  have B0 : Below w.heap.size w (w.alloc (.cells #[.int .i64 1, .int .i64 1] 56)) := (Below.refl _ _).alloc (Nat.le_refl _) _
  have c := (B0.cell (p := ⟨0, 7, none⟩) h0).trans ht.c7
  have HB : Hid _ := And.intro B0 True.intro
  clear B0 ht
  go_enter Tryd.func39, Tryd.ntmps39
  go_wp2_with fail
  go_quiet (fail)
  go_wp2
  go_ret
  exact ⟨rfl, below_drewN HB.out.1 nq⟩
set_option maxRecDepth 20000 in
theorem mt115 (w : World) (ht : TabF w) (h0 : 0 < w.heap.size) : Calls Tryd.prog 39 #[.agg #[.int .i64 1, .int .i64 1], .int .i64 5] w fun e w' => e = .returned (.bool false) ∧ Below w.heap.size w w' := by
  have B0 : Below w.heap.size w (w.alloc (.cells #[.int .i64 1, .int .i64 1] 56)) := (Below.refl _ _).alloc (Nat.le_refl _) _
  have c := (B0.cell (p := ⟨0, 7, none⟩) h0).trans ht.c7
  have HB : Hid _ := And.intro B0 True.intro
  clear B0 ht
  go_enter Tryd.func39, Tryd.ntmps39
  go_wp2_with fail
  go_quiet (fail)
  go_wp2
  go_ret
  exact ⟨rfl, below_drewN HB.out.1 nq⟩
set_option maxRecDepth 20000 in
theorem mt121 (w : World) (ht : TabF w) (h0 : 0 < w.heap.size) : Calls Tryd.prog 39 #[.agg #[.int .i64 1, .int .i64 2], .int .i64 1] w fun e w' => e = .returned (.bool false) ∧ Below w.heap.size w w' := by
  have B0 : Below w.heap.size w (w.alloc (.cells #[.int .i64 1, .int .i64 2] 56)) := (Below.refl _ _).alloc (Nat.le_refl _) _
  have c := (B0.cell (p := ⟨0, 8, none⟩) h0).trans ht.c8
  have HB : Hid _ := And.intro B0 True.intro
  clear B0 ht
  go_enter Tryd.func39, Tryd.ntmps39
  go_wp2_with fail
  go_quiet (fail)
  go_wp2
  go_ret
  exact ⟨rfl, below_drewN HB.out.1 nq⟩
set_option maxRecDepth 20000 in
theorem mt122 (w : World) (ht : TabF w) (h0 : 0 < w.heap.size) : Calls Tryd.prog 39 #[.agg #[.int .i64 1, .int .i64 2], .int .i64 2] w fun e w' => e = .returned (.bool false) ∧ Below w.heap.size w w' := by
  have B0 : Below w.heap.size w (w.alloc (.cells #[.int .i64 1, .int .i64 2] 56)) := (Below.refl _ _).alloc (Nat.le_refl _) _
  have c := (B0.cell (p := ⟨0, 8, none⟩) h0).trans ht.c8
  have HB : Hid _ := And.intro B0 True.intro
  clear B0 ht
  go_enter Tryd.func39, Tryd.ntmps39
  go_wp2_with fail
  go_quiet (fail)
  go_wp2
  go_ret
  exact ⟨rfl, below_drewN HB.out.1 nq⟩
set_option maxRecDepth 20000 in
theorem mt123 (w : World) (ht : TabF w) (h0 : 0 < w.heap.size) : Calls Tryd.prog 39 #[.agg #[.int .i64 1, .int .i64 2], .int .i64 3] w fun e w' => e = .returned (.bool true) ∧ Below w.heap.size w w' := by
  have B0 : Below w.heap.size w (w.alloc (.cells #[.int .i64 1, .int .i64 2] 56)) := (Below.refl _ _).alloc (Nat.le_refl _) _
  have c := (B0.cell (p := ⟨0, 8, none⟩) h0).trans ht.c8
  have HB : Hid _ := And.intro B0 True.intro
  clear B0 ht
  go_enter Tryd.func39, Tryd.ntmps39
  go_wp2_with fail
  go_quiet (fail)
  go_wp2
  go_ret
  exact ⟨rfl, below_drewN HB.out.1 nq⟩
set_option maxRecDepth 20000 in
theorem mt124 (w : World) (ht : TabF w) (h0 : 0 < w.heap.size) : Calls Tryd.prog 39 #[.agg #[.int .i64 1, .int .i64 2], .int .i64 4] w fun e w' => e = .returned (.bool true) ∧ Below w.heap.size w w' := by
  have B0 : Below w.heap.size w (w.alloc (.cells #[.int .i64 1, .int .i64 2] 56)) := (Below.refl _ _).alloc (Nat.le_refl _) _
  have c := (B0.cell (p := ⟨0, 8, none⟩) h0).trans ht.c8
  have HB : Hid _ := And.intro B0 True.intro
  clear B0 ht
  go_enter Tryd.func39, Tryd.ntmps39
  go_wp2_with fail
  go_quiet (fail)
  go_wp2
  go_ret
  exact ⟨rfl, below_drewN HB.out.1 nq⟩
set_option maxRecDepth 20000 in
theorem mt125 (w : World) (ht : TabF w) (h0 : 0 < w.heap.size) : Calls Tryd.prog 39 #[.agg #[.int .i64 1, .int .i64 2], .int .i64 5] w fun e w' => e = .returned (.bool false) ∧ Below w.heap.size w w' := by
  have B0 : Below w.heap.size w (w.alloc (.cells #[.int .i64 1, .int .i64 2] 56)) := (Below.refl _ _).alloc (Nat.le_refl _) _
  have c := (B0.cell (p := ⟨0, 8, none⟩) h0).trans ht.c8
  have HB : Hid _ := And.intro B0 True.intro
  clear B0 ht
  go_enter Tryd.func39, Tryd.ntmps39
  go_wp2_with fail
  go_quiet (fail)
  go_wp2
  go_ret
  exact ⟨rfl, below_drewN HB.out.1 nq⟩
set_option maxRecDepth 20000 in
theorem mt131 (w : World) (ht : TabF w) (h0 : 0 < w.heap.size) : Calls Tryd.prog 39 #[.agg #[.int .i64 1, .int .i64 3], .int .i64 1] w fun e w' => e = .returned (.bool false) ∧ Below w.heap.size w w' := by
  have B0 : Below w.heap.size w (w.alloc (.cells #[.int .i64 1, .int .i64 3] 56)) := (Below.refl _ _).alloc (Nat.le_refl _) _
  have c := (B0.cell (p := ⟨0, 9, none⟩) h0).trans ht.c9
  have HB : Hid _ := And.intro B0 True.intro
  clear B0 ht
  go_enter Tryd.func39, Tryd.ntmps39
  go_wp2_with fail
  go_quiet (fail)
  go_wp2
  go_ret
  exact ⟨rfl, below_drewN HB.out.1 nq⟩
set_option maxRecDepth 20000 in
theorem mt132 (w : World) (ht : TabF w) (h0 : 0 < w.heap.size) : Calls Tryd.prog 39 #[.agg #[.int .i64 1, .int .i64 3], .int .i64 2] w fun e w' => e = .returned (.bool false) ∧ Below w.heap.size w w' := by
  have B0 : Below w.heap.size w (w.alloc (.cells #[.int .i64 1, .int .i64 3] 56)) := (Below.refl _ _).alloc (Nat.le_refl _) _
  have c := (B0.cell (p := ⟨0, 9, none⟩) h0).trans ht.c9
  have HB : Hid _ := And.intro B0 True.intro
  clear B0 ht
  go_enter Tryd.func39, Tryd.ntmps39
  go_wp2_with fail
  go_quiet (fail)
  go_wp2
  go_ret
  exact ⟨rfl, below_drewN HB.out.1 nq⟩
set_option maxRecDepth 20000 in
theorem mt133 (w : World) (ht : TabF w) (h0 : 0 < w.heap.size) : Calls Tryd.prog 39 #[.agg #[.int .i64 1, .int .i64 3], .int .i64 3] w fun e w' => e = .returned (.bool false) ∧ Below w.heap.size w w' := by
  have B0 : Below w.heap.size w (w.alloc (.cells #[.int .i64 1, .int .i64 3] 56)) := (Below.refl _ _).alloc (Nat.le_refl _) _
  have c := (B0.cell (p := ⟨0, 9, none⟩) h0).trans ht.c9
  have HB : Hid _ := And.intro B0 True.intro
  clear B0 ht
  go_enter Tryd.func39, Tryd.ntmps39
  go_wp2_with fail
  go_quiet (fail)
  go_wp2
  go_ret
  exact ⟨rfl, below_drewN HB.out.1 nq⟩
set_option maxRecDepth 20000 in
theorem mt134 (w : World) (ht : TabF w) (h0 : 0 < w.heap.size) : Calls Tryd.prog 39 #[.agg #[.int .i64 1, .int .i64 3], .int .i64 4] w fun e w' => e = .returned (.bool false) ∧ Below w.heap.size w w' := by
  have B0 : Below w.heap.size w (w.alloc (.cells #[.int .i64 1, .int .i64 3] 56)) := (Below.refl _ _).alloc (Nat.le_refl _) _
  have c := (B0.cell (p := ⟨0, 9, none⟩) h0).trans ht.c9
  have HB : Hid _ := And.intro B0 True.intro
  clear B0 ht
  go_enter Tryd.func39, Tryd.ntmps39
  go_wp2_with fail
  go_quiet (fail)
  go_wp2
  go_ret
  exact ⟨rfl, below_drewN HB.out.1 nq⟩
set_option maxRecDepth 20000 in
theorem mt135 (w : World) (ht : TabF w) (h0 : 0 < w.heap.size) : Calls Tryd.prog 39 #[.agg #[.int .i64 1, .int .i64 3], .int .i64 5] w fun e w' => e = .returned (.bool false) ∧ Below w.heap.size w w' := by
  have B0 : Below w.heap.size w (w.alloc (.cells #[.int .i64 1, .int .i64 3] 56)) := (Below.refl _ _).alloc (Nat.le_refl _) _
  have c := (B0.cell (p := ⟨0, 9, none⟩) h0).trans ht.c9
  have HB : Hid _ := And.intro B0 True.intro
  clear B0 ht
  go_enter Tryd.func39, Tryd.ntmps39
  go_wp2_with fail
  go_quiet (fail)
  go_wp2
  go_ret
  exact ⟨rfl, below_drewN HB.out.1 nq⟩
set_option maxRecDepth 20000 in
theorem mt141 (w : World) (ht : TabF w) (h0 : 0 < w.heap.size) : Calls Tryd.prog 39 #[.agg #[.int .i64 1, .int .i64 4], .int .i64 1] w fun e w' => e = .returned (.bool false) ∧ Below w.heap.size w w' := by
  have B0 : Below w.heap.size w (w.alloc (.cells #[.int .i64 1, .int .i64 4] 56)) := (Below.refl _ _).alloc (Nat.le_refl _) _
  have c := (B0.cell (p := ⟨0, 10, none⟩) h0).trans ht.c10
  have HB : Hid _ := And.intro B0 True.intro
  clear B0 ht
  go_enter Tryd.func39, Tryd.ntmps39
  go_wp2_with fail
  go_quiet (fail)
  go_wp2
  go_ret
  exact ⟨rfl, below_drewN HB.out.1 nq⟩
set_option maxRecDepth 20000 in
theorem mt142 (w : World) (ht : TabF w) (h0 : 0 < w.heap.size) : Calls Tryd.prog 39 #[.agg #[.int .i64 1, .int .i64 4], .int .i64 2] w fun e w' => e = .returned (.bool false) ∧ Below w.heap.size w w' := by
  have B0 : Below w.heap.size w (w.alloc (.cells #[.int .i64 1, .int .i64 4] 56)) := (Below.refl _ _).alloc (Nat.le_refl _) _
  have c := (B0.cell (p := ⟨0, 10, none⟩) h0).trans ht.c10
  have HB : Hid _ := And.intro B0 True.intro
  clear B0 ht
  go_enter Tryd.func39, Tryd.ntmps39
  go_wp2_with fail
  go_quiet (fail)
  go_wp2
  go_ret
  exact ⟨rfl, below_drewN HB.out.1 nq⟩
set_option maxRecDepth 20000 in
theorem mt143 (w : World) (ht : TabF w) (h0 : 0 < w.heap.size) : Calls Tryd.prog 39 #[.agg #[.int .i64 1, .int .i64 4], .int .i64 3] w fun e w' => e = .returned (.bool false) ∧ Below w.heap.size w w' := by
  have B0 : Below w.heap.size w (w.alloc (.cells #[.int .i64 1, .int .i64 4] 56)) := (Below.refl _ _).alloc (Nat.le_refl _) _
  have c := (B0.cell (p := ⟨0, 10, none⟩) h0).trans ht.c10
  have HB : Hid _ := And.intro B0 True.intro
  clear B0 ht
  go_enter Tryd.func39, Tryd.ntmps39
  go_wp2_with fail
  go_quiet (fail)
  go_wp2
  go_ret
  exact ⟨rfl, below_drewN HB.out.1 nq⟩
set_option maxRecDepth 20000 in
theorem mt144 (w : World) (ht : TabF w) (h0 : 0 < w.heap.size) : Calls Tryd.prog 39 #[.agg #[.int .i64 1, .int .i64 4], .int .i64 4] w fun e w' => e = .returned (.bool false) ∧ Below w.heap.size w w' := by
  have B0 : Below w.heap.size w (w.alloc (.cells #[.int .i64 1, .int .i64 4] 56)) := (Below.refl _ _).alloc (Nat.le_refl _) _
  have c := (B0.cell (p := ⟨0, 10, none⟩) h0).trans ht.c10
  have HB : Hid _ := And.intro B0 True.intro
  clear B0 ht
  go_enter Tryd.func39, Tryd.ntmps39
  go_wp2_with fail
  go_quiet (fail)
  go_wp2
  go_ret
  exact ⟨rfl, below_drewN HB.out.1 nq⟩
set_option maxRecDepth 20000 in
theorem mt145 (w : World) (ht : TabF w) (h0 : 0 < w.heap.size) : Calls Tryd.prog 39 #[.agg #[.int .i64 1, .int .i64 4], .int .i64 5] w fun e w' => e = .returned (.bool true) ∧ Below w.heap.size w w' := by
  have B0 : Below w.heap.size w (w.alloc (.cells #[.int .i64 1, .int .i64 4] 56)) := (Below.refl _ _).alloc (Nat.le_refl _) _
  have c := (B0.cell (p := ⟨0, 10, none⟩) h0).trans ht.c10
  have HB : Hid _ := And.intro B0 True.intro
  clear B0 ht
  go_enter Tryd.func39, Tryd.ntmps39
  go_wp2_with fail
  go_quiet (fail)
  go_wp2
  go_ret
  exact ⟨rfl, below_drewN HB.out.1 nq⟩
set_option maxRecDepth 20000 in
theorem mt151 (w : World) (ht : TabF w) (h0 : 0 < w.heap.size) : Calls Tryd.prog 39 #[.agg #[.int .i64 1, .int .i64 5], .int .i64 1] w fun e w' => e = .returned (.bool false) ∧ Below w.heap.size w w' := by
  have B0 : Below w.heap.size w (w.alloc (.cells #[.int .i64 1, .int .i64 5] 56)) := (Below.refl _ _).alloc (Nat.le_refl _) _
  have c := (B0.cell (p := ⟨0, 11, none⟩) h0).trans ht.c11
  have HB : Hid _ := And.intro B0 True.intro
  clear B0 ht
  go_enter Tryd.func39, Tryd.ntmps39
  go_wp2_with fail
  go_quiet (fail)
  go_wp2
  go_ret
  exact ⟨rfl, below_drewN HB.out.1 nq⟩
set_option maxRecDepth 20000 in
theorem mt152 (w : World) (ht : TabF w) (h0 : 0 < w.heap.size) : Calls Tryd.prog 39 #[.agg #[.int .i64 1, .int .i64 5], .int .i64 2] w fun e w' => e = .returned (.bool false) ∧ Below w.heap.size w w' := by
  have B0 : Below w.heap.size w (w.alloc (.cells #[.int .i64 1, .int .i64 5] 56)) := (Below.refl _ _).alloc (Nat.le_refl _) _
  have c := (B0.cell (p := ⟨0, 11, none⟩) h0).trans ht.c11
  have HB : Hid _ := And.intro B0 True.intro
  clear B0 ht
  go_enter Tryd.func39, Tryd.ntmps39
  go_wp2_with fail
  go_quiet (fail)
  go_wp2
  go_ret
  exact ⟨rfl, below_drewN HB.out.1 nq⟩
set_option maxRecDepth 20000 in
theorem mt153 (w : World) (ht : TabF w) (h0 : 0 < w.heap.size) : Calls Tryd.prog 39 #[.agg #[.int .i64 1, .int .i64 5], .int .i64 3] w fun e w' => e = .returned (.bool false) ∧ Below w.heap.size w w' := by
  have B0 : Below w.heap.size w (w.alloc (.cells #[.int .i64 1, .int .i64 5] 56)) := (Below.refl _ _).alloc (Nat.le_refl _) _
  have c := (B0.cell (p := ⟨0, 11, none⟩) h0).trans ht.c11
  have HB : Hid _ := And.intro B0 True.intro
  clear B0 ht
  go_enter Tryd.func39, Tryd.ntmps39
  go_wp2_with fail
  go_quiet (fail)
  go_wp2
  go_ret
  exact ⟨rfl, below_drewN HB.out.1 nq⟩
set_option maxRecDepth 20000 in
theorem mt154 (w : World) (ht : TabF w) (h0 : 0 < w.heap.size) : Calls Tryd.prog 39 #[.agg #[.int .i64 1, .int .i64 5], .int .i64 4] w fun e w' => e = .returned (.bool false) ∧ Below w.heap.size w w' := by
  have B0 : Below w.heap.size w (w.alloc (.cells #[.int .i64 1, .int .i64 5] 56)) := (Below.refl _ _).alloc (Nat.le_refl _) _
  have c := (B0.cell (p := ⟨0, 11, none⟩) h0).trans ht.c11
  have HB : Hid _ := And.intro B0 True.intro
  clear B0 ht
  go_enter Tryd.func39, Tryd.ntmps39
  go_wp2_with fail
  go_quiet (fail)
  go_wp2
  go_ret
  exact ⟨rfl, below_drewN HB.out.1 nq⟩
set_option maxRecDepth 20000 in
theorem mt155 (w : World) (ht : TabF w) (h0 : 0 < w.heap.size) : Calls Tryd.prog 39 #[.agg #[.int .i64 1, .int .i64 5], .int .i64 5] w fun e w' => e = .returned (.bool false) ∧ Below w.heap.size w w' := by
  have B0 : Below w.heap.size w (w.alloc (.cells #[.int .i64 1, .int .i64 5] 56)) := (Below.refl _ _).alloc (Nat.le_refl _) _
  have c := (B0.cell (p := ⟨0, 11, none⟩) h0).trans ht.c11
  have HB : Hid _ := And.intro B0 True.intro
  clear B0 ht
  go_enter Tryd.func39, Tryd.ntmps39
  go_wp2_with fail
  go_quiet (fail)
  go_wp2
  go_ret
  exact ⟨rfl, below_drewN HB.out.1 nq⟩
theorem mayTurnI (p s x : Nat) (hp : p < 2) (hs : s < 6) (h1 : 1 ≤ x) (h5 : x ≤ 5) (w : World) (ht : TabF w) (h0 : 0 < w.heap.size) :
    Calls Tryd.prog 39 #[.agg #[.int .i64 (p : Int), .int .i64 (s : Int)], .int .i64 (x : Int)] w fun e w' => e = .returned (.bool (mtV p s x)) ∧ Below w.heap.size w w' := by
  have hp' : p = 0 ∨ p = 1 := by omega
  have hs' : s = 0 ∨ s = 1 ∨ s = 2 ∨ s = 3 ∨ s = 4 ∨ s = 5 := by omega
  have hx' : x = 1 ∨ x = 2 ∨ x = 3 ∨ x = 4 ∨ x = 5 := by omega
  rcases hp' with rfl | rfl
  · rcases hs' with rfl | rfl | rfl | rfl | rfl | rfl
    · rcases hx' with rfl | rfl | rfl | rfl | rfl
      · exact mt001 w ht h0
      · exact mt002 w ht h0
      · exact mt003 w ht h0
      · exact mt004 w ht h0
      · exact mt005 w ht h0
    · rcases hx' with rfl | rfl | rfl | rfl | rfl
      · exact mt011 w ht h0
      · exact mt012 w ht h0
      · exact mt013 w ht h0
      · exact mt014 w ht h0
      · exact mt015 w ht h0
    · rcases hx' with rfl | rfl | rfl | rfl | rfl
      · exact mt021 w ht h0
      · exact mt022 w ht h0
      · exact mt023 w ht h0
      · exact mt024 w ht h0
      · exact mt025 w ht h0
    · rcases hx' with rfl | rfl | rfl | rfl | rfl
      · exact mt031 w ht h0
      · exact mt032 w ht h0
      · exact mt033 w ht h0
      · exact mt034 w ht h0
      · exact mt035 w ht h0
    · rcases hx' with rfl | rfl | rfl | rfl | rfl
      · exact mt041 w ht h0
      · exact mt042 w ht h0
      · exact mt043 w ht h0
      · exact mt044 w ht h0
      · exact mt045 w ht h0
    · rcases hx' with rfl | rfl | rfl | rfl | rfl
      · exact mt051 w ht h0
      · exact mt052 w ht h0
      · exact mt053 w ht h0
      · exact mt054 w ht h0
      · exact mt055 w ht h0
  · rcases hs' with rfl | rfl | rfl | rfl | rfl | rfl
    · rcases hx' with rfl | rfl | rfl | rfl | rfl
      · exact mt101 w ht h0
      · exact mt102 w ht h0
      · exact mt103 w ht h0
      · exact mt104 w ht h0
      · exact mt105 w ht h0
    · rcases hx' with rfl | rfl | rfl | rfl | rfl
      · exact mt111 w ht h0
      · exact mt112 w ht h0
      · exact mt113 w ht h0
      · exact mt114 w ht h0
      · exact mt115 w ht h0
    · rcases hx' with rfl | rfl | rfl | rfl | rfl
      · exact mt121 w ht h0
      · exact mt122 w ht h0
      · exact mt123 w ht h0
      · exact mt124 w ht h0
      · exact mt125 w ht h0
    · rcases hx' with rfl | rfl | rfl | rfl | rfl
      · exact mt131 w ht h0
      · exact mt132 w ht h0
      · exact mt133 w ht h0
      · exact mt134 w ht h0
      · exact mt135 w ht h0
    · rcases hx' with rfl | rfl | rfl | rfl | rfl
      · exact mt141 w ht h0
      · exact mt142 w ht h0
      · exact mt143 w ht h0
      · exact mt144 w ht h0
      · exact mt145 w ht h0
    · rcases hx' with rfl | rfl | rfl | rfl | rfl
      · exact mt151 w ht h0
      · exact mt152 w ht h0
      · exact mt153 w ht h0
      · exact mt154 w ht h0
      · exact mt155 w ht h0
end Go.Proofs.YtpdclbfjngmppaaDoor
