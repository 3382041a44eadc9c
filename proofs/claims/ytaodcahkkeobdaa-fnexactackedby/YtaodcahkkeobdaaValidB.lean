import Derived.Test.YtaodcahkkeobdaaOwnR
import Derived.Test.YtaodcahkkeobdaaKindF
import Derived.Test.YtaodcahkkeobdaaVNum
import Derived.Test.YtaodcahkkeobdaaBodyB
import Derived.Test.YtaodcahkkeobdaaBodyC
import Derived.Test.YtaodcahkkeobdaaBodyD
import Derived.Test.YtaodcahkkeobdaaBodyE
import Derived.Test.YtaodcahkkeobdaaBodyN
import Derived.Test.YtaodcahkkeobdaaBlocks
namespace Go.Proofs.Ytaodcahkkeobdaa
open Go.RowKit
set_option linter.unusedVariables false

set_option maxRecDepth 20000 in
set_option maxHeartbeats 2000000 in
theorem vb_num (k a b c : Int) (fin : Bool) (ad at' ar : Option Addr) (nd pd nt pt nr pr : Nat) (B : Value) (sf kf least most : Int) (own : Bool) (w : World)
    (cvn : ∀ wx, Calls Try.prog 43 #[.agg #[.int .i64 k, .int .i64 a, .int .i64 b, .int .i64 c, .bool fin, .slice ad nd pd, .slice at' nt pt, .slice ar nr pr]] wx fun e w' => e = .returned (.bool (nin a && nin b && nin c)) ∧ Below wx.heap.size wx w')
    (cb : ∀ wx, (nin a && nin b && nin c) = true → Calls Try.prog 44 #[.agg #[.int .i64 k, .int .i64 a, .int .i64 b, .int .i64 c, .bool fin, .slice ad nd pd, .slice at' nt pt, .slice ar nr pr]] wx fun e w' => e = .returned B ∧ Below wx.heap.size wx w')
    (cs : ∀ wx, Calls Try.prog 45 #[.agg #[.int .i64 k, .int .i64 a, .int .i64 b, .int .i64 c, .bool fin, .slice ad nd pd, .slice at' nt pt, .slice ar nr pr]] wx fun e w' => e = .returned (.int .i64 sf) ∧ Below wx.heap.size wx w')
    (ck : ∀ wx, Calls Try.prog 46 #[B] wx fun e w' => e = .returned (.int .i64 kf) ∧ w' = wx)
    (cd : ∀ wx, Calls Try.prog 47 #[B] wx fun e w' => e = .returned (.tuple #[.int .i64 least, .int .i64 most]) ∧ w' = wx)
    (co : ∀ wx, Below w.heap.size w wx → Calls Try.prog 48 #[B] wx fun e w' => e = .returned (.bool own) ∧ Below wx.heap.size wx w')
    (T : TypeId) (bv : Value) (hB : B = .iface T bv) (hn : (nin a && nin b && nin c) = false) :
    Calls Try.prog 39 #[.agg #[.int .i64 k, .int .i64 a, .int .i64 b, .int .i64 c, .bool fin, .slice ad nd pd, .slice at' nt pt, .slice ar nr pr]] w fun e w' => e = .returned .nilIface ∧ Below w.heap.size w w' := by
  subst hB
  have B0 : Below w.heap.size w (w.alloc (.cells #[.int .i64 k, .int .i64 a, .int .i64 b, .int .i64 c, .bool fin, .slice ad nd pd, .slice at' nt pt, .slice ar nr pr] 27)) := (Below.refl _ _).alloc (Nat.le_refl _) _
  have hs0 : w.heap.size < (w.alloc (.cells #[.int .i64 k, .int .i64 a, .int .i64 b, .int .i64 c, .bool fin, .slice ad nd pd, .slice at' nt pt, .slice ar nr pr] 27)).heap.size := by simp
  have hk0 : ∀ j, (w.alloc (.cells #[.int .i64 k, .int .i64 a, .int .i64 b, .int .i64 c, .bool fin, .slice ad nd pd, .slice at' nt pt, .slice ar nr pr] 27)).cell? ⟨w.heap.size, j, none⟩ = (#[.int .i64 k, .int .i64 a, .int .i64 b, .int .i64 c, .bool fin, .slice ad nd pd, .slice at' nt pt, .slice ar nr pr] : Array Value)[j]? := fun j => bk_cell (heap_alloc_new w _) j
  have HH : Hid _ := And.intro B0 (And.intro hs0 hk0)
  clear B0 hs0 hk0
  go_enter Try.func39, Try.ntmps39
  go_wp2_with fail
  go_at_call 43
  refine (cvn _).mono ?_
  rintro e w1 ⟨rfl, b1⟩
  rw [hn]
  go_wp2
  go_ret
  exact ⟨rfl, HH.out.1.trans (b1.mono HH.out.1.size)⟩
set_option maxRecDepth 20000 in
set_option maxHeartbeats 2000000 in
theorem vb_field (k a b c : Int) (fin : Bool) (ad at' ar : Option Addr) (nd pd nt pt nr pr : Nat) (B : Value) (sf kf least most : Int) (own : Bool) (w : World)
    (cvn : ∀ wx, Calls Try.prog 43 #[.agg #[.int .i64 k, .int .i64 a, .int .i64 b, .int .i64 c, .bool fin, .slice ad nd pd, .slice at' nt pt, .slice ar nr pr]] wx fun e w' => e = .returned (.bool (nin a && nin b && nin c)) ∧ Below wx.heap.size wx w')
    (cb : ∀ wx, (nin a && nin b && nin c) = true → Calls Try.prog 44 #[.agg #[.int .i64 k, .int .i64 a, .int .i64 b, .int .i64 c, .bool fin, .slice ad nd pd, .slice at' nt pt, .slice ar nr pr]] wx fun e w' => e = .returned B ∧ Below wx.heap.size wx w')
    (cs : ∀ wx, Calls Try.prog 45 #[.agg #[.int .i64 k, .int .i64 a, .int .i64 b, .int .i64 c, .bool fin, .slice ad nd pd, .slice at' nt pt, .slice ar nr pr]] wx fun e w' => e = .returned (.int .i64 sf) ∧ Below wx.heap.size wx w')
    (ck : ∀ wx, Calls Try.prog 46 #[B] wx fun e w' => e = .returned (.int .i64 kf) ∧ w' = wx)
    (cd : ∀ wx, Calls Try.prog 47 #[B] wx fun e w' => e = .returned (.tuple #[.int .i64 least, .int .i64 most]) ∧ w' = wx)
    (co : ∀ wx, Below w.heap.size w wx → Calls Try.prog 48 #[B] wx fun e w' => e = .returned (.bool own) ∧ Below wx.heap.size wx w')
    (T : TypeId) (bv : Value) (hB : B = .iface T bv) (hn : (nin a && nin b && nin c) = true) (hf : (bits .andNot .i64 sf kf != 0) = true) :
    Calls Try.prog 39 #[.agg #[.int .i64 k, .int .i64 a, .int .i64 b, .int .i64 c, .bool fin, .slice ad nd pd, .slice at' nt pt, .slice ar nr pr]] w fun e w' => e = .returned .nilIface ∧ Below w.heap.size w w' := by
  subst hB
  have B0 : Below w.heap.size w (w.alloc (.cells #[.int .i64 k, .int .i64 a, .int .i64 b, .int .i64 c, .bool fin, .slice ad nd pd, .slice at' nt pt, .slice ar nr pr] 27)) := (Below.refl _ _).alloc (Nat.le_refl _) _
  have hs0 : w.heap.size < (w.alloc (.cells #[.int .i64 k, .int .i64 a, .int .i64 b, .int .i64 c, .bool fin, .slice ad nd pd, .slice at' nt pt, .slice ar nr pr] 27)).heap.size := by simp
  have hk0 : ∀ j, (w.alloc (.cells #[.int .i64 k, .int .i64 a, .int .i64 b, .int .i64 c, .bool fin, .slice ad nd pd, .slice at' nt pt, .slice ar nr pr] 27)).cell? ⟨w.heap.size, j, none⟩ = (#[.int .i64 k, .int .i64 a, .int .i64 b, .int .i64 c, .bool fin, .slice ad nd pd, .slice at' nt pt, .slice ar nr pr] : Array Value)[j]? := fun j => bk_cell (heap_alloc_new w _) j
  have HH : Hid _ := And.intro B0 (And.intro hs0 hk0)
  clear B0 hs0 hk0
  go_enter Try.func39, Try.ntmps39
  go_wp2_with fail
  go_at_call 43
  refine (cvn _).mono ?_
  rintro e w1 ⟨rfl, b1⟩
  rw [hn]
  have BB1 : Hid _ := And.intro b1 True.intro
  have c1_0 : w1.cell? ⟨w.heap.size, 0, none⟩ = some (.int .i64 k) := (b1.cell (p := ⟨w.heap.size, 0, none⟩) HH.out.2.1).trans (HH.out.2.2 0)
  have c1_1 : w1.cell? ⟨w.heap.size, 1, none⟩ = some (.int .i64 a) := (b1.cell (p := ⟨w.heap.size, 1, none⟩) HH.out.2.1).trans (HH.out.2.2 1)
  have c1_2 : w1.cell? ⟨w.heap.size, 2, none⟩ = some (.int .i64 b) := (b1.cell (p := ⟨w.heap.size, 2, none⟩) HH.out.2.1).trans (HH.out.2.2 2)
  have c1_3 : w1.cell? ⟨w.heap.size, 3, none⟩ = some (.int .i64 c) := (b1.cell (p := ⟨w.heap.size, 3, none⟩) HH.out.2.1).trans (HH.out.2.2 3)
  have c1_4 : w1.cell? ⟨w.heap.size, 4, none⟩ = some (.bool fin) := (b1.cell (p := ⟨w.heap.size, 4, none⟩) HH.out.2.1).trans (HH.out.2.2 4)
  have c1_5 : w1.cell? ⟨w.heap.size, 5, none⟩ = some (.slice ad nd pd) := (b1.cell (p := ⟨w.heap.size, 5, none⟩) HH.out.2.1).trans (HH.out.2.2 5)
  have c1_6 : w1.cell? ⟨w.heap.size, 6, none⟩ = some (.slice at' nt pt) := (b1.cell (p := ⟨w.heap.size, 6, none⟩) HH.out.2.1).trans (HH.out.2.2 6)
  have c1_7 : w1.cell? ⟨w.heap.size, 7, none⟩ = some (.slice ar nr pr) := (b1.cell (p := ⟨w.heap.size, 7, none⟩) HH.out.2.1).trans (HH.out.2.2 7)
  have s1 : w.heap.size < w1.heap.size := Nat.lt_of_lt_of_le HH.out.2.1 b1.size
  clear b1
  go_wp2_with fail
  go_at_call 44
  refine (cb _ hn).mono ?_
  rintro e w2 ⟨rfl, b2⟩
  have c2_0 : w2.cell? ⟨w.heap.size, 0, none⟩ = some (.int .i64 k) := (b2.cell (p := ⟨w.heap.size, 0, none⟩) s1).trans c1_0
  have c2_1 : w2.cell? ⟨w.heap.size, 1, none⟩ = some (.int .i64 a) := (b2.cell (p := ⟨w.heap.size, 1, none⟩) s1).trans c1_1
  have c2_2 : w2.cell? ⟨w.heap.size, 2, none⟩ = some (.int .i64 b) := (b2.cell (p := ⟨w.heap.size, 2, none⟩) s1).trans c1_2
  have c2_3 : w2.cell? ⟨w.heap.size, 3, none⟩ = some (.int .i64 c) := (b2.cell (p := ⟨w.heap.size, 3, none⟩) s1).trans c1_3
  have c2_4 : w2.cell? ⟨w.heap.size, 4, none⟩ = some (.bool fin) := (b2.cell (p := ⟨w.heap.size, 4, none⟩) s1).trans c1_4
  have c2_5 : w2.cell? ⟨w.heap.size, 5, none⟩ = some (.slice ad nd pd) := (b2.cell (p := ⟨w.heap.size, 5, none⟩) s1).trans c1_5
  have c2_6 : w2.cell? ⟨w.heap.size, 6, none⟩ = some (.slice at' nt pt) := (b2.cell (p := ⟨w.heap.size, 6, none⟩) s1).trans c1_6
  have c2_7 : w2.cell? ⟨w.heap.size, 7, none⟩ = some (.slice ar nr pr) := (b2.cell (p := ⟨w.heap.size, 7, none⟩) s1).trans c1_7
  have s2 : w.heap.size < w2.heap.size := Nat.lt_of_lt_of_le s1 b2.size
  have BB2 : Hid _ := And.intro b2 True.intro
  clear b2 c1_0 c1_1 c1_2 c1_3 c1_4 c1_5 c1_6 c1_7
  go_wp2_with fail
  go_at_call 45
  refine (cs _).mono ?_
  rintro e w3 ⟨rfl, b3⟩
  have c3_0 : w3.cell? ⟨w.heap.size, 0, none⟩ = some (.int .i64 k) := (b3.cell (p := ⟨w.heap.size, 0, none⟩) s2).trans c2_0
  have c3_1 : w3.cell? ⟨w.heap.size, 1, none⟩ = some (.int .i64 a) := (b3.cell (p := ⟨w.heap.size, 1, none⟩) s2).trans c2_1
  have c3_2 : w3.cell? ⟨w.heap.size, 2, none⟩ = some (.int .i64 b) := (b3.cell (p := ⟨w.heap.size, 2, none⟩) s2).trans c2_2
  have c3_3 : w3.cell? ⟨w.heap.size, 3, none⟩ = some (.int .i64 c) := (b3.cell (p := ⟨w.heap.size, 3, none⟩) s2).trans c2_3
  have c3_4 : w3.cell? ⟨w.heap.size, 4, none⟩ = some (.bool fin) := (b3.cell (p := ⟨w.heap.size, 4, none⟩) s2).trans c2_4
  have c3_5 : w3.cell? ⟨w.heap.size, 5, none⟩ = some (.slice ad nd pd) := (b3.cell (p := ⟨w.heap.size, 5, none⟩) s2).trans c2_5
  have c3_6 : w3.cell? ⟨w.heap.size, 6, none⟩ = some (.slice at' nt pt) := (b3.cell (p := ⟨w.heap.size, 6, none⟩) s2).trans c2_6
  have c3_7 : w3.cell? ⟨w.heap.size, 7, none⟩ = some (.slice ar nr pr) := (b3.cell (p := ⟨w.heap.size, 7, none⟩) s2).trans c2_7
  have s3 : w.heap.size < w3.heap.size := Nat.lt_of_lt_of_le s2 b3.size
  have bel3 : Below w.heap.size w w3 := ((HH.out.1.trans (BB1.out.1.mono HH.out.1.size)).trans (BB2.out.1.mono (Nat.le_of_lt s1))).trans (b3.mono (Nat.le_of_lt s2))
  have BB3 : Hid _ := And.intro bel3 True.intro
  clear b3 bel3 c2_0 c2_1 c2_2 c2_3 c2_4 c2_5 c2_6 c2_7
  go_wp2_with fail
  go_at_call 46
  refine (ck _).mono ?_
  rintro e w4 ⟨rfl, e4⟩
  subst e4
  go_wp2
  go_ret
  exact ⟨rfl, BB3.out.1⟩
set_option maxRecDepth 20000 in
set_option maxHeartbeats 2000000 in
theorem vb_least (k a b c : Int) (fin : Bool) (ad at' ar : Option Addr) (nd pd nt pt nr pr : Nat) (B : Value) (sf kf least most : Int) (own : Bool) (w : World)
    (cvn : ∀ wx, Calls Try.prog 43 #[.agg #[.int .i64 k, .int .i64 a, .int .i64 b, .int .i64 c, .bool fin, .slice ad nd pd, .slice at' nt pt, .slice ar nr pr]] wx fun e w' => e = .returned (.bool (nin a && nin b && nin c)) ∧ Below wx.heap.size wx w')
    (cb : ∀ wx, (nin a && nin b && nin c) = true → Calls Try.prog 44 #[.agg #[.int .i64 k, .int .i64 a, .int .i64 b, .int .i64 c, .bool fin, .slice ad nd pd, .slice at' nt pt, .slice ar nr pr]] wx fun e w' => e = .returned B ∧ Below wx.heap.size wx w')
    (cs : ∀ wx, Calls Try.prog 45 #[.agg #[.int .i64 k, .int .i64 a, .int .i64 b, .int .i64 c, .bool fin, .slice ad nd pd, .slice at' nt pt, .slice ar nr pr]] wx fun e w' => e = .returned (.int .i64 sf) ∧ Below wx.heap.size wx w')
    (ck : ∀ wx, Calls Try.prog 46 #[B] wx fun e w' => e = .returned (.int .i64 kf) ∧ w' = wx)
    (cd : ∀ wx, Calls Try.prog 47 #[B] wx fun e w' => e = .returned (.tuple #[.int .i64 least, .int .i64 most]) ∧ w' = wx)
    (co : ∀ wx, Below w.heap.size w wx → Calls Try.prog 48 #[B] wx fun e w' => e = .returned (.bool own) ∧ Below wx.heap.size wx w')
    (T : TypeId) (bv : Value) (hB : B = .iface T bv) (hn : (nin a && nin b && nin c) = true) (hf : (bits .andNot .i64 sf kf != 0) = false) (hl : (nd : Int) < least) :
    Calls Try.prog 39 #[.agg #[.int .i64 k, .int .i64 a, .int .i64 b, .int .i64 c, .bool fin, .slice ad nd pd, .slice at' nt pt, .slice ar nr pr]] w fun e w' => e = .returned .nilIface ∧ Below w.heap.size w w' := by
  subst hB
  have B0 : Below w.heap.size w (w.alloc (.cells #[.int .i64 k, .int .i64 a, .int .i64 b, .int .i64 c, .bool fin, .slice ad nd pd, .slice at' nt pt, .slice ar nr pr] 27)) := (Below.refl _ _).alloc (Nat.le_refl _) _
  have hs0 : w.heap.size < (w.alloc (.cells #[.int .i64 k, .int .i64 a, .int .i64 b, .int .i64 c, .bool fin, .slice ad nd pd, .slice at' nt pt, .slice ar nr pr] 27)).heap.size := by simp
  have hk0 : ∀ j, (w.alloc (.cells #[.int .i64 k, .int .i64 a, .int .i64 b, .int .i64 c, .bool fin, .slice ad nd pd, .slice at' nt pt, .slice ar nr pr] 27)).cell? ⟨w.heap.size, j, none⟩ = (#[.int .i64 k, .int .i64 a, .int .i64 b, .int .i64 c, .bool fin, .slice ad nd pd, .slice at' nt pt, .slice ar nr pr] : Array Value)[j]? := fun j => bk_cell (heap_alloc_new w _) j
  have HH : Hid _ := And.intro B0 (And.intro hs0 hk0)
  clear B0 hs0 hk0
  go_enter Try.func39, Try.ntmps39
  go_wp2_with fail
  go_at_call 43
  refine (cvn _).mono ?_
  rintro e w1 ⟨rfl, b1⟩
  rw [hn]
  have BB1 : Hid _ := And.intro b1 True.intro
  have c1_0 : w1.cell? ⟨w.heap.size, 0, none⟩ = some (.int .i64 k) := (b1.cell (p := ⟨w.heap.size, 0, none⟩) HH.out.2.1).trans (HH.out.2.2 0)
  have c1_1 : w1.cell? ⟨w.heap.size, 1, none⟩ = some (.int .i64 a) := (b1.cell (p := ⟨w.heap.size, 1, none⟩) HH.out.2.1).trans (HH.out.2.2 1)
  have c1_2 : w1.cell? ⟨w.heap.size, 2, none⟩ = some (.int .i64 b) := (b1.cell (p := ⟨w.heap.size, 2, none⟩) HH.out.2.1).trans (HH.out.2.2 2)
  have c1_3 : w1.cell? ⟨w.heap.size, 3, none⟩ = some (.int .i64 c) := (b1.cell (p := ⟨w.heap.size, 3, none⟩) HH.out.2.1).trans (HH.out.2.2 3)
  have c1_4 : w1.cell? ⟨w.heap.size, 4, none⟩ = some (.bool fin) := (b1.cell (p := ⟨w.heap.size, 4, none⟩) HH.out.2.1).trans (HH.out.2.2 4)
  have c1_5 : w1.cell? ⟨w.heap.size, 5, none⟩ = some (.slice ad nd pd) := (b1.cell (p := ⟨w.heap.size, 5, none⟩) HH.out.2.1).trans (HH.out.2.2 5)
  have c1_6 : w1.cell? ⟨w.heap.size, 6, none⟩ = some (.slice at' nt pt) := (b1.cell (p := ⟨w.heap.size, 6, none⟩) HH.out.2.1).trans (HH.out.2.2 6)
  have c1_7 : w1.cell? ⟨w.heap.size, 7, none⟩ = some (.slice ar nr pr) := (b1.cell (p := ⟨w.heap.size, 7, none⟩) HH.out.2.1).trans (HH.out.2.2 7)
  have s1 : w.heap.size < w1.heap.size := Nat.lt_of_lt_of_le HH.out.2.1 b1.size
  clear b1
  go_wp2_with fail
  go_at_call 44
  refine (cb _ hn).mono ?_
  rintro e w2 ⟨rfl, b2⟩
  have c2_0 : w2.cell? ⟨w.heap.size, 0, none⟩ = some (.int .i64 k) := (b2.cell (p := ⟨w.heap.size, 0, none⟩) s1).trans c1_0
  have c2_1 : w2.cell? ⟨w.heap.size, 1, none⟩ = some (.int .i64 a) := (b2.cell (p := ⟨w.heap.size, 1, none⟩) s1).trans c1_1
  have c2_2 : w2.cell? ⟨w.heap.size, 2, none⟩ = some (.int .i64 b) := (b2.cell (p := ⟨w.heap.size, 2, none⟩) s1).trans c1_2
  have c2_3 : w2.cell? ⟨w.heap.size, 3, none⟩ = some (.int .i64 c) := (b2.cell (p := ⟨w.heap.size, 3, none⟩) s1).trans c1_3
  have c2_4 : w2.cell? ⟨w.heap.size, 4, none⟩ = some (.bool fin) := (b2.cell (p := ⟨w.heap.size, 4, none⟩) s1).trans c1_4
  have c2_5 : w2.cell? ⟨w.heap.size, 5, none⟩ = some (.slice ad nd pd) := (b2.cell (p := ⟨w.heap.size, 5, none⟩) s1).trans c1_5
  have c2_6 : w2.cell? ⟨w.heap.size, 6, none⟩ = some (.slice at' nt pt) := (b2.cell (p := ⟨w.heap.size, 6, none⟩) s1).trans c1_6
  have c2_7 : w2.cell? ⟨w.heap.size, 7, none⟩ = some (.slice ar nr pr) := (b2.cell (p := ⟨w.heap.size, 7, none⟩) s1).trans c1_7
  have s2 : w.heap.size < w2.heap.size := Nat.lt_of_lt_of_le s1 b2.size
  have BB2 : Hid _ := And.intro b2 True.intro
  clear b2 c1_0 c1_1 c1_2 c1_3 c1_4 c1_5 c1_6 c1_7
  go_wp2_with fail
  go_at_call 45
  refine (cs _).mono ?_
  rintro e w3 ⟨rfl, b3⟩
  have c3_0 : w3.cell? ⟨w.heap.size, 0, none⟩ = some (.int .i64 k) := (b3.cell (p := ⟨w.heap.size, 0, none⟩) s2).trans c2_0
  have c3_1 : w3.cell? ⟨w.heap.size, 1, none⟩ = some (.int .i64 a) := (b3.cell (p := ⟨w.heap.size, 1, none⟩) s2).trans c2_1
  have c3_2 : w3.cell? ⟨w.heap.size, 2, none⟩ = some (.int .i64 b) := (b3.cell (p := ⟨w.heap.size, 2, none⟩) s2).trans c2_2
  have c3_3 : w3.cell? ⟨w.heap.size, 3, none⟩ = some (.int .i64 c) := (b3.cell (p := ⟨w.heap.size, 3, none⟩) s2).trans c2_3
  have c3_4 : w3.cell? ⟨w.heap.size, 4, none⟩ = some (.bool fin) := (b3.cell (p := ⟨w.heap.size, 4, none⟩) s2).trans c2_4
  have c3_5 : w3.cell? ⟨w.heap.size, 5, none⟩ = some (.slice ad nd pd) := (b3.cell (p := ⟨w.heap.size, 5, none⟩) s2).trans c2_5
  have c3_6 : w3.cell? ⟨w.heap.size, 6, none⟩ = some (.slice at' nt pt) := (b3.cell (p := ⟨w.heap.size, 6, none⟩) s2).trans c2_6
  have c3_7 : w3.cell? ⟨w.heap.size, 7, none⟩ = some (.slice ar nr pr) := (b3.cell (p := ⟨w.heap.size, 7, none⟩) s2).trans c2_7
  have s3 : w.heap.size < w3.heap.size := Nat.lt_of_lt_of_le s2 b3.size
  have bel3 : Below w.heap.size w w3 := ((HH.out.1.trans (BB1.out.1.mono HH.out.1.size)).trans (BB2.out.1.mono (Nat.le_of_lt s1))).trans (b3.mono (Nat.le_of_lt s2))
  have BB3 : Hid _ := And.intro bel3 True.intro
  clear b3 bel3 c2_0 c2_1 c2_2 c2_3 c2_4 c2_5 c2_6 c2_7
  go_wp2_with fail
  go_at_call 46
  refine (ck _).mono ?_
  rintro e w4 ⟨rfl, e4⟩
  subst e4
  go_wp2_with fail
  go_at_call 47
  refine (cd _).mono ?_
  rintro e w5 ⟨rfl, e5⟩
  subst e5
  go_wp2
  go_ret
  exact ⟨rfl, BB3.out.1⟩
set_option maxRecDepth 20000 in
set_option maxHeartbeats 2000000 in
theorem vb_most (k a b c : Int) (fin : Bool) (ad at' ar : Option Addr) (nd pd nt pt nr pr : Nat) (B : Value) (sf kf least most : Int) (own : Bool) (w : World)
    (cvn : ∀ wx, Calls Try.prog 43 #[.agg #[.int .i64 k, .int .i64 a, .int .i64 b, .int .i64 c, .bool fin, .slice ad nd pd, .slice at' nt pt, .slice ar nr pr]] wx fun e w' => e = .returned (.bool (nin a && nin b && nin c)) ∧ Below wx.heap.size wx w')
    (cb : ∀ wx, (nin a && nin b && nin c) = true → Calls Try.prog 44 #[.agg #[.int .i64 k, .int .i64 a, .int .i64 b, .int .i64 c, .bool fin, .slice ad nd pd, .slice at' nt pt, .slice ar nr pr]] wx fun e w' => e = .returned B ∧ Below wx.heap.size wx w')
    (cs : ∀ wx, Calls Try.prog 45 #[.agg #[.int .i64 k, .int .i64 a, .int .i64 b, .int .i64 c, .bool fin, .slice ad nd pd, .slice at' nt pt, .slice ar nr pr]] wx fun e w' => e = .returned (.int .i64 sf) ∧ Below wx.heap.size wx w')
    (ck : ∀ wx, Calls Try.prog 46 #[B] wx fun e w' => e = .returned (.int .i64 kf) ∧ w' = wx)
    (cd : ∀ wx, Calls Try.prog 47 #[B] wx fun e w' => e = .returned (.tuple #[.int .i64 least, .int .i64 most]) ∧ w' = wx)
    (co : ∀ wx, Below w.heap.size w wx → Calls Try.prog 48 #[B] wx fun e w' => e = .returned (.bool own) ∧ Below wx.heap.size wx w')
    (T : TypeId) (bv : Value) (hB : B = .iface T bv) (hn : (nin a && nin b && nin c) = true) (hf : (bits .andNot .i64 sf kf != 0) = false) (hl : ¬ (nd : Int) < least) (hm : most < (nd : Int)) :
    Calls Try.prog 39 #[.agg #[.int .i64 k, .int .i64 a, .int .i64 b, .int .i64 c, .bool fin, .slice ad nd pd, .slice at' nt pt, .slice ar nr pr]] w fun e w' => e = .returned .nilIface ∧ Below w.heap.size w w' := by
  replace hl : decide ((nd : Int) < least) = false := decide_eq_false hl
  subst hB
  have B0 : Below w.heap.size w (w.alloc (.cells #[.int .i64 k, .int .i64 a, .int .i64 b, .int .i64 c, .bool fin, .slice ad nd pd, .slice at' nt pt, .slice ar nr pr] 27)) := (Below.refl _ _).alloc (Nat.le_refl _) _
  have hs0 : w.heap.size < (w.alloc (.cells #[.int .i64 k, .int .i64 a, .int .i64 b, .int .i64 c, .bool fin, .slice ad nd pd, .slice at' nt pt, .slice ar nr pr] 27)).heap.size := by simp
  have hk0 : ∀ j, (w.alloc (.cells #[.int .i64 k, .int .i64 a, .int .i64 b, .int .i64 c, .bool fin, .slice ad nd pd, .slice at' nt pt, .slice ar nr pr] 27)).cell? ⟨w.heap.size, j, none⟩ = (#[.int .i64 k, .int .i64 a, .int .i64 b, .int .i64 c, .bool fin, .slice ad nd pd, .slice at' nt pt, .slice ar nr pr] : Array Value)[j]? := fun j => bk_cell (heap_alloc_new w _) j
  have HH : Hid _ := And.intro B0 (And.intro hs0 hk0)
  clear B0 hs0 hk0
  go_enter Try.func39, Try.ntmps39
  go_wp2_with fail
  go_at_call 43
  refine (cvn _).mono ?_
  rintro e w1 ⟨rfl, b1⟩
  rw [hn]
  have BB1 : Hid _ := And.intro b1 True.intro
  have c1_0 : w1.cell? ⟨w.heap.size, 0, none⟩ = some (.int .i64 k) := (b1.cell (p := ⟨w.heap.size, 0, none⟩) HH.out.2.1).trans (HH.out.2.2 0)
  have c1_1 : w1.cell? ⟨w.heap.size, 1, none⟩ = some (.int .i64 a) := (b1.cell (p := ⟨w.heap.size, 1, none⟩) HH.out.2.1).trans (HH.out.2.2 1)
  have c1_2 : w1.cell? ⟨w.heap.size, 2, none⟩ = some (.int .i64 b) := (b1.cell (p := ⟨w.heap.size, 2, none⟩) HH.out.2.1).trans (HH.out.2.2 2)
  have c1_3 : w1.cell? ⟨w.heap.size, 3, none⟩ = some (.int .i64 c) := (b1.cell (p := ⟨w.heap.size, 3, none⟩) HH.out.2.1).trans (HH.out.2.2 3)
  have c1_4 : w1.cell? ⟨w.heap.size, 4, none⟩ = some (.bool fin) := (b1.cell (p := ⟨w.heap.size, 4, none⟩) HH.out.2.1).trans (HH.out.2.2 4)
  have c1_5 : w1.cell? ⟨w.heap.size, 5, none⟩ = some (.slice ad nd pd) := (b1.cell (p := ⟨w.heap.size, 5, none⟩) HH.out.2.1).trans (HH.out.2.2 5)
  have c1_6 : w1.cell? ⟨w.heap.size, 6, none⟩ = some (.slice at' nt pt) := (b1.cell (p := ⟨w.heap.size, 6, none⟩) HH.out.2.1).trans (HH.out.2.2 6)
  have c1_7 : w1.cell? ⟨w.heap.size, 7, none⟩ = some (.slice ar nr pr) := (b1.cell (p := ⟨w.heap.size, 7, none⟩) HH.out.2.1).trans (HH.out.2.2 7)
  have s1 : w.heap.size < w1.heap.size := Nat.lt_of_lt_of_le HH.out.2.1 b1.size
  clear b1
  go_wp2_with fail
  go_at_call 44
  refine (cb _ hn).mono ?_
  rintro e w2 ⟨rfl, b2⟩
  have c2_0 : w2.cell? ⟨w.heap.size, 0, none⟩ = some (.int .i64 k) := (b2.cell (p := ⟨w.heap.size, 0, none⟩) s1).trans c1_0
  have c2_1 : w2.cell? ⟨w.heap.size, 1, none⟩ = some (.int .i64 a) := (b2.cell (p := ⟨w.heap.size, 1, none⟩) s1).trans c1_1
  have c2_2 : w2.cell? ⟨w.heap.size, 2, none⟩ = some (.int .i64 b) := (b2.cell (p := ⟨w.heap.size, 2, none⟩) s1).trans c1_2
  have c2_3 : w2.cell? ⟨w.heap.size, 3, none⟩ = some (.int .i64 c) := (b2.cell (p := ⟨w.heap.size, 3, none⟩) s1).trans c1_3
  have c2_4 : w2.cell? ⟨w.heap.size, 4, none⟩ = some (.bool fin) := (b2.cell (p := ⟨w.heap.size, 4, none⟩) s1).trans c1_4
  have c2_5 : w2.cell? ⟨w.heap.size, 5, none⟩ = some (.slice ad nd pd) := (b2.cell (p := ⟨w.heap.size, 5, none⟩) s1).trans c1_5
  have c2_6 : w2.cell? ⟨w.heap.size, 6, none⟩ = some (.slice at' nt pt) := (b2.cell (p := ⟨w.heap.size, 6, none⟩) s1).trans c1_6
  have c2_7 : w2.cell? ⟨w.heap.size, 7, none⟩ = some (.slice ar nr pr) := (b2.cell (p := ⟨w.heap.size, 7, none⟩) s1).trans c1_7
  have s2 : w.heap.size < w2.heap.size := Nat.lt_of_lt_of_le s1 b2.size
  have BB2 : Hid _ := And.intro b2 True.intro
  clear b2 c1_0 c1_1 c1_2 c1_3 c1_4 c1_5 c1_6 c1_7
  go_wp2_with fail
  go_at_call 45
  refine (cs _).mono ?_
  rintro e w3 ⟨rfl, b3⟩
  have c3_0 : w3.cell? ⟨w.heap.size, 0, none⟩ = some (.int .i64 k) := (b3.cell (p := ⟨w.heap.size, 0, none⟩) s2).trans c2_0
  have c3_1 : w3.cell? ⟨w.heap.size, 1, none⟩ = some (.int .i64 a) := (b3.cell (p := ⟨w.heap.size, 1, none⟩) s2).trans c2_1
  have c3_2 : w3.cell? ⟨w.heap.size, 2, none⟩ = some (.int .i64 b) := (b3.cell (p := ⟨w.heap.size, 2, none⟩) s2).trans c2_2
  have c3_3 : w3.cell? ⟨w.heap.size, 3, none⟩ = some (.int .i64 c) := (b3.cell (p := ⟨w.heap.size, 3, none⟩) s2).trans c2_3
  have c3_4 : w3.cell? ⟨w.heap.size, 4, none⟩ = some (.bool fin) := (b3.cell (p := ⟨w.heap.size, 4, none⟩) s2).trans c2_4
  have c3_5 : w3.cell? ⟨w.heap.size, 5, none⟩ = some (.slice ad nd pd) := (b3.cell (p := ⟨w.heap.size, 5, none⟩) s2).trans c2_5
  have c3_6 : w3.cell? ⟨w.heap.size, 6, none⟩ = some (.slice at' nt pt) := (b3.cell (p := ⟨w.heap.size, 6, none⟩) s2).trans c2_6
  have c3_7 : w3.cell? ⟨w.heap.size, 7, none⟩ = some (.slice ar nr pr) := (b3.cell (p := ⟨w.heap.size, 7, none⟩) s2).trans c2_7
  have s3 : w.heap.size < w3.heap.size := Nat.lt_of_lt_of_le s2 b3.size
  have bel3 : Below w.heap.size w w3 := ((HH.out.1.trans (BB1.out.1.mono HH.out.1.size)).trans (BB2.out.1.mono (Nat.le_of_lt s1))).trans (b3.mono (Nat.le_of_lt s2))
  have BB3 : Hid _ := And.intro bel3 True.intro
  clear b3 bel3 c2_0 c2_1 c2_2 c2_3 c2_4 c2_5 c2_6 c2_7
  go_wp2_with fail
  go_at_call 46
  refine (ck _).mono ?_
  rintro e w4 ⟨rfl, e4⟩
  subst e4
  go_wp2_with fail
  go_at_call 47
  refine (cd _).mono ?_
  rintro e w5 ⟨rfl, e5⟩
  subst e5
  go_wp2
  go_ret
  exact ⟨rfl, BB3.out.1⟩
set_option maxRecDepth 20000 in
set_option maxHeartbeats 2000000 in
theorem vb_own (k a b c : Int) (fin : Bool) (ad at' ar : Option Addr) (nd pd nt pt nr pr : Nat) (B : Value) (sf kf least most : Int) (own : Bool) (w : World)
    (cvn : ∀ wx, Calls Try.prog 43 #[.agg #[.int .i64 k, .int .i64 a, .int .i64 b, .int .i64 c, .bool fin, .slice ad nd pd, .slice at' nt pt, .slice ar nr pr]] wx fun e w' => e = .returned (.bool (nin a && nin b && nin c)) ∧ Below wx.heap.size wx w')
    (cb : ∀ wx, (nin a && nin b && nin c) = true → Calls Try.prog 44 #[.agg #[.int .i64 k, .int .i64 a, .int .i64 b, .int .i64 c, .bool fin, .slice ad nd pd, .slice at' nt pt, .slice ar nr pr]] wx fun e w' => e = .returned B ∧ Below wx.heap.size wx w')
    (cs : ∀ wx, Calls Try.prog 45 #[.agg #[.int .i64 k, .int .i64 a, .int .i64 b, .int .i64 c, .bool fin, .slice ad nd pd, .slice at' nt pt, .slice ar nr pr]] wx fun e w' => e = .returned (.int .i64 sf) ∧ Below wx.heap.size wx w')
    (ck : ∀ wx, Calls Try.prog 46 #[B] wx fun e w' => e = .returned (.int .i64 kf) ∧ w' = wx)
    (cd : ∀ wx, Calls Try.prog 47 #[B] wx fun e w' => e = .returned (.tuple #[.int .i64 least, .int .i64 most]) ∧ w' = wx)
    (co : ∀ wx, Below w.heap.size w wx → Calls Try.prog 48 #[B] wx fun e w' => e = .returned (.bool own) ∧ Below wx.heap.size wx w')
    (T : TypeId) (bv : Value) (hB : B = .iface T bv) (hn : (nin a && nin b && nin c) = true) (hf : (bits .andNot .i64 sf kf != 0) = false) (hl : ¬ (nd : Int) < least) (hm : ¬ most < (nd : Int)) (ho : own = false) :
    Calls Try.prog 39 #[.agg #[.int .i64 k, .int .i64 a, .int .i64 b, .int .i64 c, .bool fin, .slice ad nd pd, .slice at' nt pt, .slice ar nr pr]] w fun e w' => e = .returned .nilIface ∧ Below w.heap.size w w' := by
  subst ho
  replace hl : decide ((nd : Int) < least) = false := decide_eq_false hl
  replace hm : decide (most < (nd : Int)) = false := decide_eq_false hm
  subst hB
  have B0 : Below w.heap.size w (w.alloc (.cells #[.int .i64 k, .int .i64 a, .int .i64 b, .int .i64 c, .bool fin, .slice ad nd pd, .slice at' nt pt, .slice ar nr pr] 27)) := (Below.refl _ _).alloc (Nat.le_refl _) _
  have hs0 : w.heap.size < (w.alloc (.cells #[.int .i64 k, .int .i64 a, .int .i64 b, .int .i64 c, .bool fin, .slice ad nd pd, .slice at' nt pt, .slice ar nr pr] 27)).heap.size := by simp
  have hk0 : ∀ j, (w.alloc (.cells #[.int .i64 k, .int .i64 a, .int .i64 b, .int .i64 c, .bool fin, .slice ad nd pd, .slice at' nt pt, .slice ar nr pr] 27)).cell? ⟨w.heap.size, j, none⟩ = (#[.int .i64 k, .int .i64 a, .int .i64 b, .int .i64 c, .bool fin, .slice ad nd pd, .slice at' nt pt, .slice ar nr pr] : Array Value)[j]? := fun j => bk_cell (heap_alloc_new w _) j
  have HH : Hid _ := And.intro B0 (And.intro hs0 hk0)
  clear B0 hs0 hk0
  go_enter Try.func39, Try.ntmps39
  go_wp2_with fail
  go_at_call 43
  refine (cvn _).mono ?_
  rintro e w1 ⟨rfl, b1⟩
  rw [hn]
  have BB1 : Hid _ := And.intro b1 True.intro
  have c1_0 : w1.cell? ⟨w.heap.size, 0, none⟩ = some (.int .i64 k) := (b1.cell (p := ⟨w.heap.size, 0, none⟩) HH.out.2.1).trans (HH.out.2.2 0)
  have c1_1 : w1.cell? ⟨w.heap.size, 1, none⟩ = some (.int .i64 a) := (b1.cell (p := ⟨w.heap.size, 1, none⟩) HH.out.2.1).trans (HH.out.2.2 1)
  have c1_2 : w1.cell? ⟨w.heap.size, 2, none⟩ = some (.int .i64 b) := (b1.cell (p := ⟨w.heap.size, 2, none⟩) HH.out.2.1).trans (HH.out.2.2 2)
  have c1_3 : w1.cell? ⟨w.heap.size, 3, none⟩ = some (.int .i64 c) := (b1.cell (p := ⟨w.heap.size, 3, none⟩) HH.out.2.1).trans (HH.out.2.2 3)
  have c1_4 : w1.cell? ⟨w.heap.size, 4, none⟩ = some (.bool fin) := (b1.cell (p := ⟨w.heap.size, 4, none⟩) HH.out.2.1).trans (HH.out.2.2 4)
  have c1_5 : w1.cell? ⟨w.heap.size, 5, none⟩ = some (.slice ad nd pd) := (b1.cell (p := ⟨w.heap.size, 5, none⟩) HH.out.2.1).trans (HH.out.2.2 5)
  have c1_6 : w1.cell? ⟨w.heap.size, 6, none⟩ = some (.slice at' nt pt) := (b1.cell (p := ⟨w.heap.size, 6, none⟩) HH.out.2.1).trans (HH.out.2.2 6)
  have c1_7 : w1.cell? ⟨w.heap.size, 7, none⟩ = some (.slice ar nr pr) := (b1.cell (p := ⟨w.heap.size, 7, none⟩) HH.out.2.1).trans (HH.out.2.2 7)
  have s1 : w.heap.size < w1.heap.size := Nat.lt_of_lt_of_le HH.out.2.1 b1.size
  clear b1
  go_wp2_with fail
  go_at_call 44
  refine (cb _ hn).mono ?_
  rintro e w2 ⟨rfl, b2⟩
  have c2_0 : w2.cell? ⟨w.heap.size, 0, none⟩ = some (.int .i64 k) := (b2.cell (p := ⟨w.heap.size, 0, none⟩) s1).trans c1_0
  have c2_1 : w2.cell? ⟨w.heap.size, 1, none⟩ = some (.int .i64 a) := (b2.cell (p := ⟨w.heap.size, 1, none⟩) s1).trans c1_1
  have c2_2 : w2.cell? ⟨w.heap.size, 2, none⟩ = some (.int .i64 b) := (b2.cell (p := ⟨w.heap.size, 2, none⟩) s1).trans c1_2
  have c2_3 : w2.cell? ⟨w.heap.size, 3, none⟩ = some (.int .i64 c) := (b2.cell (p := ⟨w.heap.size, 3, none⟩) s1).trans c1_3
  have c2_4 : w2.cell? ⟨w.heap.size, 4, none⟩ = some (.bool fin) := (b2.cell (p := ⟨w.heap.size, 4, none⟩) s1).trans c1_4
  have c2_5 : w2.cell? ⟨w.heap.size, 5, none⟩ = some (.slice ad nd pd) := (b2.cell (p := ⟨w.heap.size, 5, none⟩) s1).trans c1_5
  have c2_6 : w2.cell? ⟨w.heap.size, 6, none⟩ = some (.slice at' nt pt) := (b2.cell (p := ⟨w.heap.size, 6, none⟩) s1).trans c1_6
  have c2_7 : w2.cell? ⟨w.heap.size, 7, none⟩ = some (.slice ar nr pr) := (b2.cell (p := ⟨w.heap.size, 7, none⟩) s1).trans c1_7
  have s2 : w.heap.size < w2.heap.size := Nat.lt_of_lt_of_le s1 b2.size
  have BB2 : Hid _ := And.intro b2 True.intro
  clear b2 c1_0 c1_1 c1_2 c1_3 c1_4 c1_5 c1_6 c1_7
  go_wp2_with fail
  go_at_call 45
  refine (cs _).mono ?_
  rintro e w3 ⟨rfl, b3⟩
  have c3_0 : w3.cell? ⟨w.heap.size, 0, none⟩ = some (.int .i64 k) := (b3.cell (p := ⟨w.heap.size, 0, none⟩) s2).trans c2_0
  have c3_1 : w3.cell? ⟨w.heap.size, 1, none⟩ = some (.int .i64 a) := (b3.cell (p := ⟨w.heap.size, 1, none⟩) s2).trans c2_1
  have c3_2 : w3.cell? ⟨w.heap.size, 2, none⟩ = some (.int .i64 b) := (b3.cell (p := ⟨w.heap.size, 2, none⟩) s2).trans c2_2
  have c3_3 : w3.cell? ⟨w.heap.size, 3, none⟩ = some (.int .i64 c) := (b3.cell (p := ⟨w.heap.size, 3, none⟩) s2).trans c2_3
  have c3_4 : w3.cell? ⟨w.heap.size, 4, none⟩ = some (.bool fin) := (b3.cell (p := ⟨w.heap.size, 4, none⟩) s2).trans c2_4
  have c3_5 : w3.cell? ⟨w.heap.size, 5, none⟩ = some (.slice ad nd pd) := (b3.cell (p := ⟨w.heap.size, 5, none⟩) s2).trans c2_5
  have c3_6 : w3.cell? ⟨w.heap.size, 6, none⟩ = some (.slice at' nt pt) := (b3.cell (p := ⟨w.heap.size, 6, none⟩) s2).trans c2_6
  have c3_7 : w3.cell? ⟨w.heap.size, 7, none⟩ = some (.slice ar nr pr) := (b3.cell (p := ⟨w.heap.size, 7, none⟩) s2).trans c2_7
  have s3 : w.heap.size < w3.heap.size := Nat.lt_of_lt_of_le s2 b3.size
  have bel3 : Below w.heap.size w w3 := ((HH.out.1.trans (BB1.out.1.mono HH.out.1.size)).trans (BB2.out.1.mono (Nat.le_of_lt s1))).trans (b3.mono (Nat.le_of_lt s2))
  have BB3 : Hid _ := And.intro bel3 True.intro
  clear b3 bel3 c2_0 c2_1 c2_2 c2_3 c2_4 c2_5 c2_6 c2_7
  go_wp2_with fail
  go_at_call 46
  refine (ck _).mono ?_
  rintro e w4 ⟨rfl, e4⟩
  subst e4
  go_wp2_with fail
  go_at_call 47
  refine (cd _).mono ?_
  rintro e w5 ⟨rfl, e5⟩
  subst e5
  go_wp2_with fail
  go_at_call 48
  refine (co _ BB3.out.1).mono ?_
  rintro e w6 ⟨rfl, b6⟩
  go_wp2
  go_ret
  exact ⟨rfl, BB3.out.1.trans (b6.mono (Nat.le_of_lt s3))⟩
set_option maxRecDepth 20000 in
set_option maxHeartbeats 2000000 in
theorem vb_ok (k a b c : Int) (fin : Bool) (ad at' ar : Option Addr) (nd pd nt pt nr pr : Nat) (B : Value) (sf kf least most : Int) (own : Bool) (w : World)
    (cvn : ∀ wx, Calls Try.prog 43 #[.agg #[.int .i64 k, .int .i64 a, .int .i64 b, .int .i64 c, .bool fin, .slice ad nd pd, .slice at' nt pt, .slice ar nr pr]] wx fun e w' => e = .returned (.bool (nin a && nin b && nin c)) ∧ Below wx.heap.size wx w')
    (cb : ∀ wx, (nin a && nin b && nin c) = true → Calls Try.prog 44 #[.agg #[.int .i64 k, .int .i64 a, .int .i64 b, .int .i64 c, .bool fin, .slice ad nd pd, .slice at' nt pt, .slice ar nr pr]] wx fun e w' => e = .returned B ∧ Below wx.heap.size wx w')
    (cs : ∀ wx, Calls Try.prog 45 #[.agg #[.int .i64 k, .int .i64 a, .int .i64 b, .int .i64 c, .bool fin, .slice ad nd pd, .slice at' nt pt, .slice ar nr pr]] wx fun e w' => e = .returned (.int .i64 sf) ∧ Below wx.heap.size wx w')
    (ck : ∀ wx, Calls Try.prog 46 #[B] wx fun e w' => e = .returned (.int .i64 kf) ∧ w' = wx)
    (cd : ∀ wx, Calls Try.prog 47 #[B] wx fun e w' => e = .returned (.tuple #[.int .i64 least, .int .i64 most]) ∧ w' = wx)
    (co : ∀ wx, Below w.heap.size w wx → Calls Try.prog 48 #[B] wx fun e w' => e = .returned (.bool own) ∧ Below wx.heap.size wx w')
    (T : TypeId) (bv : Value) (hB : B = .iface T bv) (hn : (nin a && nin b && nin c) = true) (hf : (bits .andNot .i64 sf kf != 0) = false) (hl : ¬ (nd : Int) < least) (hm : ¬ most < (nd : Int)) (ho : own = true) :
    Calls Try.prog 39 #[.agg #[.int .i64 k, .int .i64 a, .int .i64 b, .int .i64 c, .bool fin, .slice ad nd pd, .slice at' nt pt, .slice ar nr pr]] w fun e w' => e = .returned (.iface T bv) ∧ Below w.heap.size w w' := by
  subst ho
  replace hl : decide ((nd : Int) < least) = false := decide_eq_false hl
  replace hm : decide (most < (nd : Int)) = false := decide_eq_false hm
  subst hB
  have B0 : Below w.heap.size w (w.alloc (.cells #[.int .i64 k, .int .i64 a, .int .i64 b, .int .i64 c, .bool fin, .slice ad nd pd, .slice at' nt pt, .slice ar nr pr] 27)) := (Below.refl _ _).alloc (Nat.le_refl _) _
  have hs0 : w.heap.size < (w.alloc (.cells #[.int .i64 k, .int .i64 a, .int .i64 b, .int .i64 c, .bool fin, .slice ad nd pd, .slice at' nt pt, .slice ar nr pr] 27)).heap.size := by simp
  have hk0 : ∀ j, (w.alloc (.cells #[.int .i64 k, .int .i64 a, .int .i64 b, .int .i64 c, .bool fin, .slice ad nd pd, .slice at' nt pt, .slice ar nr pr] 27)).cell? ⟨w.heap.size, j, none⟩ = (#[.int .i64 k, .int .i64 a, .int .i64 b, .int .i64 c, .bool fin, .slice ad nd pd, .slice at' nt pt, .slice ar nr pr] : Array Value)[j]? := fun j => bk_cell (heap_alloc_new w _) j
  have HH : Hid _ := And.intro B0 (And.intro hs0 hk0)
  clear B0 hs0 hk0
  go_enter Try.func39, Try.ntmps39
  go_wp2_with fail
  go_at_call 43
  refine (cvn _).mono ?_
  rintro e w1 ⟨rfl, b1⟩
  rw [hn]
  have BB1 : Hid _ := And.intro b1 True.intro
  have c1_0 : w1.cell? ⟨w.heap.size, 0, none⟩ = some (.int .i64 k) := (b1.cell (p := ⟨w.heap.size, 0, none⟩) HH.out.2.1).trans (HH.out.2.2 0)
  have c1_1 : w1.cell? ⟨w.heap.size, 1, none⟩ = some (.int .i64 a) := (b1.cell (p := ⟨w.heap.size, 1, none⟩) HH.out.2.1).trans (HH.out.2.2 1)
  have c1_2 : w1.cell? ⟨w.heap.size, 2, none⟩ = some (.int .i64 b) := (b1.cell (p := ⟨w.heap.size, 2, none⟩) HH.out.2.1).trans (HH.out.2.2 2)
  have c1_3 : w1.cell? ⟨w.heap.size, 3, none⟩ = some (.int .i64 c) := (b1.cell (p := ⟨w.heap.size, 3, none⟩) HH.out.2.1).trans (HH.out.2.2 3)
  have c1_4 : w1.cell? ⟨w.heap.size, 4, none⟩ = some (.bool fin) := (b1.cell (p := ⟨w.heap.size, 4, none⟩) HH.out.2.1).trans (HH.out.2.2 4)
  have c1_5 : w1.cell? ⟨w.heap.size, 5, none⟩ = some (.slice ad nd pd) := (b1.cell (p := ⟨w.heap.size, 5, none⟩) HH.out.2.1).trans (HH.out.2.2 5)
  have c1_6 : w1.cell? ⟨w.heap.size, 6, none⟩ = some (.slice at' nt pt) := (b1.cell (p := ⟨w.heap.size, 6, none⟩) HH.out.2.1).trans (HH.out.2.2 6)
  have c1_7 : w1.cell? ⟨w.heap.size, 7, none⟩ = some (.slice ar nr pr) := (b1.cell (p := ⟨w.heap.size, 7, none⟩) HH.out.2.1).trans (HH.out.2.2 7)
  have s1 : w.heap.size < w1.heap.size := Nat.lt_of_lt_of_le HH.out.2.1 b1.size
  clear b1
  go_wp2_with fail
  go_at_call 44
  refine (cb _ hn).mono ?_
  rintro e w2 ⟨rfl, b2⟩
  have c2_0 : w2.cell? ⟨w.heap.size, 0, none⟩ = some (.int .i64 k) := (b2.cell (p := ⟨w.heap.size, 0, none⟩) s1).trans c1_0
  have c2_1 : w2.cell? ⟨w.heap.size, 1, none⟩ = some (.int .i64 a) := (b2.cell (p := ⟨w.heap.size, 1, none⟩) s1).trans c1_1
  have c2_2 : w2.cell? ⟨w.heap.size, 2, none⟩ = some (.int .i64 b) := (b2.cell (p := ⟨w.heap.size, 2, none⟩) s1).trans c1_2
  have c2_3 : w2.cell? ⟨w.heap.size, 3, none⟩ = some (.int .i64 c) := (b2.cell (p := ⟨w.heap.size, 3, none⟩) s1).trans c1_3
  have c2_4 : w2.cell? ⟨w.heap.size, 4, none⟩ = some (.bool fin) := (b2.cell (p := ⟨w.heap.size, 4, none⟩) s1).trans c1_4
  have c2_5 : w2.cell? ⟨w.heap.size, 5, none⟩ = some (.slice ad nd pd) := (b2.cell (p := ⟨w.heap.size, 5, none⟩) s1).trans c1_5
  have c2_6 : w2.cell? ⟨w.heap.size, 6, none⟩ = some (.slice at' nt pt) := (b2.cell (p := ⟨w.heap.size, 6, none⟩) s1).trans c1_6
  have c2_7 : w2.cell? ⟨w.heap.size, 7, none⟩ = some (.slice ar nr pr) := (b2.cell (p := ⟨w.heap.size, 7, none⟩) s1).trans c1_7
  have s2 : w.heap.size < w2.heap.size := Nat.lt_of_lt_of_le s1 b2.size
  have BB2 : Hid _ := And.intro b2 True.intro
  clear b2 c1_0 c1_1 c1_2 c1_3 c1_4 c1_5 c1_6 c1_7
  go_wp2_with fail
  go_at_call 45
  refine (cs _).mono ?_
  rintro e w3 ⟨rfl, b3⟩
  have c3_0 : w3.cell? ⟨w.heap.size, 0, none⟩ = some (.int .i64 k) := (b3.cell (p := ⟨w.heap.size, 0, none⟩) s2).trans c2_0
  have c3_1 : w3.cell? ⟨w.heap.size, 1, none⟩ = some (.int .i64 a) := (b3.cell (p := ⟨w.heap.size, 1, none⟩) s2).trans c2_1
  have c3_2 : w3.cell? ⟨w.heap.size, 2, none⟩ = some (.int .i64 b) := (b3.cell (p := ⟨w.heap.size, 2, none⟩) s2).trans c2_2
  have c3_3 : w3.cell? ⟨w.heap.size, 3, none⟩ = some (.int .i64 c) := (b3.cell (p := ⟨w.heap.size, 3, none⟩) s2).trans c2_3
  have c3_4 : w3.cell? ⟨w.heap.size, 4, none⟩ = some (.bool fin) := (b3.cell (p := ⟨w.heap.size, 4, none⟩) s2).trans c2_4
  have c3_5 : w3.cell? ⟨w.heap.size, 5, none⟩ = some (.slice ad nd pd) := (b3.cell (p := ⟨w.heap.size, 5, none⟩) s2).trans c2_5
  have c3_6 : w3.cell? ⟨w.heap.size, 6, none⟩ = some (.slice at' nt pt) := (b3.cell (p := ⟨w.heap.size, 6, none⟩) s2).trans c2_6
  have c3_7 : w3.cell? ⟨w.heap.size, 7, none⟩ = some (.slice ar nr pr) := (b3.cell (p := ⟨w.heap.size, 7, none⟩) s2).trans c2_7
  have s3 : w.heap.size < w3.heap.size := Nat.lt_of_lt_of_le s2 b3.size
  have bel3 : Below w.heap.size w w3 := ((HH.out.1.trans (BB1.out.1.mono HH.out.1.size)).trans (BB2.out.1.mono (Nat.le_of_lt s1))).trans (b3.mono (Nat.le_of_lt s2))
  have BB3 : Hid _ := And.intro bel3 True.intro
  clear b3 bel3 c2_0 c2_1 c2_2 c2_3 c2_4 c2_5 c2_6 c2_7
  go_wp2_with fail
  go_at_call 46
  refine (ck _).mono ?_
  rintro e w4 ⟨rfl, e4⟩
  subst e4
  go_wp2_with fail
  go_at_call 47
  refine (cd _).mono ?_
  rintro e w5 ⟨rfl, e5⟩
  subst e5
  go_wp2_with fail
  go_at_call 48
  refine (co _ BB3.out.1).mono ?_
  rintro e w6 ⟨rfl, b6⟩
  go_wp2
  go_ret
  exact ⟨rfl, BB3.out.1.trans (b6.mono (Nat.le_of_lt s3))⟩
def okI (a b c : Int) (nd : Nat) (sf kf least most : Int) (own : Bool) : Bool := (nin a && nin b && nin c) && !(bits .andNot .i64 sf kf != 0) && !decide ((nd : Int) < least) && !decide (most < (nd : Int)) && own
theorem vbC (k a b c : Int) (fin : Bool) (ad at' ar : Option Addr) (nd pd nt pt nr pr : Nat) (B : Value) (sf kf least most : Int) (own : Bool) (w : World)
    (cvn : ∀ wx, Calls Try.prog 43 #[.agg #[.int .i64 k, .int .i64 a, .int .i64 b, .int .i64 c, .bool fin, .slice ad nd pd, .slice at' nt pt, .slice ar nr pr]] wx fun e w' => e = .returned (.bool (nin a && nin b && nin c)) ∧ Below wx.heap.size wx w')
    (cb : ∀ wx, (nin a && nin b && nin c) = true → Calls Try.prog 44 #[.agg #[.int .i64 k, .int .i64 a, .int .i64 b, .int .i64 c, .bool fin, .slice ad nd pd, .slice at' nt pt, .slice ar nr pr]] wx fun e w' => e = .returned B ∧ Below wx.heap.size wx w')
    (cs : ∀ wx, Calls Try.prog 45 #[.agg #[.int .i64 k, .int .i64 a, .int .i64 b, .int .i64 c, .bool fin, .slice ad nd pd, .slice at' nt pt, .slice ar nr pr]] wx fun e w' => e = .returned (.int .i64 sf) ∧ Below wx.heap.size wx w')
    (ck : ∀ wx, Calls Try.prog 46 #[B] wx fun e w' => e = .returned (.int .i64 kf) ∧ w' = wx)
    (cd : ∀ wx, Calls Try.prog 47 #[B] wx fun e w' => e = .returned (.tuple #[.int .i64 least, .int .i64 most]) ∧ w' = wx)
    (co : ∀ wx, Below w.heap.size w wx → Calls Try.prog 48 #[B] wx fun e w' => e = .returned (.bool own) ∧ Below wx.heap.size wx w')
    (T : TypeId) (bv : Value) (hB : B = .iface T bv) :
    Calls Try.prog 39 #[.agg #[.int .i64 k, .int .i64 a, .int .i64 b, .int .i64 c, .bool fin, .slice ad nd pd, .slice at' nt pt, .slice ar nr pr]] w fun e w' => e = .returned (if okI a b c nd sf kf least most own then .iface T bv else .nilIface) ∧ Below w.heap.size w w' := by
  unfold okI
  cases hn : (nin a && nin b && nin c)
  · exact vb_num k a b c fin ad at' ar nd pd nt pt nr pr B sf kf least most own w cvn cb cs ck cd co T bv hB hn
  cases hf : (bits .andNot .i64 sf kf != 0)
  case true => exact vb_field k a b c fin ad at' ar nd pd nt pt nr pr B sf kf least most own w cvn cb cs ck cd co T bv hB hn hf
  by_cases hl : (nd : Int) < least
  · rw [decide_eq_true hl]; exact vb_least k a b c fin ad at' ar nd pd nt pt nr pr B sf kf least most own w cvn cb cs ck cd co T bv hB hn hf hl
  rw [decide_eq_false hl]
  by_cases hm : most < (nd : Int)
  · rw [decide_eq_true hm]; exact vb_most k a b c fin ad at' ar nd pd nt pt nr pr B sf kf least most own w cvn cb cs ck cd co T bv hB hn hf hl hm
  rw [decide_eq_false hm]
  cases own
  · exact vb_own k a b c fin ad at' ar nd pd nt pt nr pr B sf kf least most false w cvn cb cs ck cd co T bv hB hn hf hl hm rfl
  · exact vb_ok k a b c fin ad at' ar nd pd nt pt nr pr B sf kf least most true w cvn cb cs ck cd co T bv hB hn hf hl hm rfl
set_option maxRecDepth 20000 in
set_option maxHeartbeats 1000000 in
theorem fok_y (k a b c : Int) (fin : Bool) (ad at' ar : Option Addr) (nd pd nt pt nr pr : Nat) (T : TypeId) (bv : Value) (w : World) (hc : ∀ wx, Below w.heap.size w wx → Calls Try.prog 39 #[.agg #[.int .i64 k, .int .i64 a, .int .i64 b, .int .i64 c, .bool fin, .slice ad nd pd, .slice at' nt pt, .slice ar nr pr]] wx fun e w' => e = .returned (.iface T bv) ∧ Below wx.heap.size wx w') :
    Calls Try.prog 25 #[.agg #[.int .i64 k, .int .i64 a, .int .i64 b, .int .i64 c, .bool fin, .slice ad nd pd, .slice at' nt pt, .slice ar nr pr]] w fun e w' => e = .returned (.bool true) ∧ Below w.heap.size w w' := by
  have B0 : Below w.heap.size w (w.alloc (.cells #[.int .i64 k, .int .i64 a, .int .i64 b, .int .i64 c, .bool fin, .slice ad nd pd, .slice at' nt pt, .slice ar nr pr] 27)) := (Below.refl _ _).alloc (Nat.le_refl _) _
  have HH : Hid _ := And.intro B0 True.intro
  clear B0
  go_enter Try.func25, Try.ntmps25
  go_wp2_with fail
  go_at_call 39
  refine (hc _ HH.out.1).mono ?_
  rintro e w1 ⟨rfl, b1⟩
  go_wp2
  go_ret
  exact ⟨rfl, HH.out.1.trans (b1.mono HH.out.1.size)⟩
set_option maxRecDepth 20000 in
set_option maxHeartbeats 1000000 in
theorem fok_n (k a b c : Int) (fin : Bool) (ad at' ar : Option Addr) (nd pd nt pt nr pr : Nat) (T : TypeId) (bv : Value) (w : World) (hc : ∀ wx, Below w.heap.size w wx → Calls Try.prog 39 #[.agg #[.int .i64 k, .int .i64 a, .int .i64 b, .int .i64 c, .bool fin, .slice ad nd pd, .slice at' nt pt, .slice ar nr pr]] wx fun e w' => e = .returned (.nilIface) ∧ Below wx.heap.size wx w') :
    Calls Try.prog 25 #[.agg #[.int .i64 k, .int .i64 a, .int .i64 b, .int .i64 c, .bool fin, .slice ad nd pd, .slice at' nt pt, .slice ar nr pr]] w fun e w' => e = .returned (.bool false) ∧ Below w.heap.size w w' := by
  have B0 : Below w.heap.size w (w.alloc (.cells #[.int .i64 k, .int .i64 a, .int .i64 b, .int .i64 c, .bool fin, .slice ad nd pd, .slice at' nt pt, .slice ar nr pr] 27)) := (Below.refl _ _).alloc (Nat.le_refl _) _
  have HH : Hid _ := And.intro B0 True.intro
  clear B0
  go_enter Try.func25, Try.ntmps25
  go_wp2_with fail
  go_at_call 39
  refine (hc _ HH.out.1).mono ?_
  rintro e w1 ⟨rfl, b1⟩
  go_wp2
  go_ret
  exact ⟨rfl, HH.out.1.trans (b1.mono HH.out.1.size)⟩
theorem fokC (k a b c : Int) (fin : Bool) (ad at' ar : Option Addr) (nd pd nt pt nr pr : Nat) (B : Value) (sf kf least most : Int) (own : Bool) (w : World)
    (cvn : ∀ wx, Calls Try.prog 43 #[.agg #[.int .i64 k, .int .i64 a, .int .i64 b, .int .i64 c, .bool fin, .slice ad nd pd, .slice at' nt pt, .slice ar nr pr]] wx fun e w' => e = .returned (.bool (nin a && nin b && nin c)) ∧ Below wx.heap.size wx w')
    (cb : ∀ wx, (nin a && nin b && nin c) = true → Calls Try.prog 44 #[.agg #[.int .i64 k, .int .i64 a, .int .i64 b, .int .i64 c, .bool fin, .slice ad nd pd, .slice at' nt pt, .slice ar nr pr]] wx fun e w' => e = .returned B ∧ Below wx.heap.size wx w')
    (cs : ∀ wx, Calls Try.prog 45 #[.agg #[.int .i64 k, .int .i64 a, .int .i64 b, .int .i64 c, .bool fin, .slice ad nd pd, .slice at' nt pt, .slice ar nr pr]] wx fun e w' => e = .returned (.int .i64 sf) ∧ Below wx.heap.size wx w')
    (ck : ∀ wx, Calls Try.prog 46 #[B] wx fun e w' => e = .returned (.int .i64 kf) ∧ w' = wx)
    (cd : ∀ wx, Calls Try.prog 47 #[B] wx fun e w' => e = .returned (.tuple #[.int .i64 least, .int .i64 most]) ∧ w' = wx)
    (co : ∀ wx, Below w.heap.size w wx → Calls Try.prog 48 #[B] wx fun e w' => e = .returned (.bool own) ∧ Below wx.heap.size wx w')
    (T : TypeId) (bv : Value) (hB : B = .iface T bv) :
    Calls Try.prog 25 #[.agg #[.int .i64 k, .int .i64 a, .int .i64 b, .int .i64 c, .bool fin, .slice ad nd pd, .slice at' nt pt, .slice ar nr pr]] w fun e w' => e = .returned (.bool (okI a b c nd sf kf least most own)) ∧ Below w.heap.size w w' := by
  have cv : ∀ wx, Below w.heap.size w wx → _ := fun wx hx => vbC k a b c fin ad at' ar nd pd nt pt nr pr B sf kf least most own wx cvn cb cs ck cd (fun wy hy => co wy (hx.trans (hy.mono hx.size))) T bv hB
  cases h : okI a b c nd sf kf least most own
  · rw [h] at cv; exact fok_n k a b c fin ad at' ar nd pd nt pt nr pr T bv w cv
  · rw [h] at cv; exact fok_y k a b c fin ad at' ar nd pd nt pt nr pr T bv w cv
set_option maxRecDepth 20000 in
set_option maxHeartbeats 2000000 in
theorem vb_none (k a b c : Int) (fin : Bool) (ad at' ar : Option Addr) (nd pd nt pt nr pr : Nat) (w : World) (hk : k ∉ ([0, 1, 2, 4, 5, 6, 7, 8, 16, 17, 18, 20, 21, 22, 24, 25, 26, 27, 28, 29, 30, 48] : List Int)) (hn : (nin a && nin b && nin c) = true) : Calls Try.prog 39 #[.agg #[.int .i64 k, .int .i64 a, .int .i64 b, .int .i64 c, .bool fin, .slice ad nd pd, .slice at' nt pt, .slice ar nr pr]] w fun e w' => e = .returned .nilIface ∧ Below w.heap.size w w' := by
  have cvn : ∀ wx, _ := fun wx => vnC k a b c fin ad at' ar nd pd nt pt nr pr wx
  have cb : ∀ wx, _ := fun wx => body_none k a b c fin ad at' ar nd pd nt pt nr pr wx hk
  have B0 : Below w.heap.size w (w.alloc (.cells #[.int .i64 k, .int .i64 a, .int .i64 b, .int .i64 c, .bool fin, .slice ad nd pd, .slice at' nt pt, .slice ar nr pr] 27)) := (Below.refl _ _).alloc (Nat.le_refl _) _
  have hs0 : w.heap.size < (w.alloc (.cells #[.int .i64 k, .int .i64 a, .int .i64 b, .int .i64 c, .bool fin, .slice ad nd pd, .slice at' nt pt, .slice ar nr pr] 27)).heap.size := by simp
  have hk0 : ∀ j, (w.alloc (.cells #[.int .i64 k, .int .i64 a, .int .i64 b, .int .i64 c, .bool fin, .slice ad nd pd, .slice at' nt pt, .slice ar nr pr] 27)).cell? ⟨w.heap.size, j, none⟩ = (#[.int .i64 k, .int .i64 a, .int .i64 b, .int .i64 c, .bool fin, .slice ad nd pd, .slice at' nt pt, .slice ar nr pr] : Array Value)[j]? := fun j => bk_cell (heap_alloc_new w _) j
  have HH : Hid _ := And.intro B0 (And.intro hs0 hk0)
  clear B0 hs0 hk0
  go_enter Try.func39, Try.ntmps39
  go_wp2_with fail
  go_at_call 43
  refine (cvn _).mono ?_
  rintro e w1 ⟨rfl, b1⟩
  rw [hn]
  have BB1 : Hid _ := And.intro b1 True.intro
  have c1_0 : w1.cell? ⟨w.heap.size, 0, none⟩ = some (.int .i64 k) := (b1.cell (p := ⟨w.heap.size, 0, none⟩) HH.out.2.1).trans (HH.out.2.2 0)
  have c1_1 : w1.cell? ⟨w.heap.size, 1, none⟩ = some (.int .i64 a) := (b1.cell (p := ⟨w.heap.size, 1, none⟩) HH.out.2.1).trans (HH.out.2.2 1)
  have c1_2 : w1.cell? ⟨w.heap.size, 2, none⟩ = some (.int .i64 b) := (b1.cell (p := ⟨w.heap.size, 2, none⟩) HH.out.2.1).trans (HH.out.2.2 2)
  have c1_3 : w1.cell? ⟨w.heap.size, 3, none⟩ = some (.int .i64 c) := (b1.cell (p := ⟨w.heap.size, 3, none⟩) HH.out.2.1).trans (HH.out.2.2 3)
  have c1_4 : w1.cell? ⟨w.heap.size, 4, none⟩ = some (.bool fin) := (b1.cell (p := ⟨w.heap.size, 4, none⟩) HH.out.2.1).trans (HH.out.2.2 4)
  have c1_5 : w1.cell? ⟨w.heap.size, 5, none⟩ = some (.slice ad nd pd) := (b1.cell (p := ⟨w.heap.size, 5, none⟩) HH.out.2.1).trans (HH.out.2.2 5)
  have c1_6 : w1.cell? ⟨w.heap.size, 6, none⟩ = some (.slice at' nt pt) := (b1.cell (p := ⟨w.heap.size, 6, none⟩) HH.out.2.1).trans (HH.out.2.2 6)
  have c1_7 : w1.cell? ⟨w.heap.size, 7, none⟩ = some (.slice ar nr pr) := (b1.cell (p := ⟨w.heap.size, 7, none⟩) HH.out.2.1).trans (HH.out.2.2 7)
  have s1 : w.heap.size < w1.heap.size := Nat.lt_of_lt_of_le HH.out.2.1 b1.size
  clear b1
  go_wp2_with fail
  go_at_call 44
  refine (cb _).mono ?_
  rintro e w2 ⟨rfl, b2⟩
  go_wp2
  go_ret
  exact ⟨rfl, (HH.out.1.trans (BB1.out.1.mono HH.out.1.size)).trans (b2.mono (Nat.le_of_lt s1))⟩
set_option maxRecDepth 20000 in
set_option maxHeartbeats 2000000 in
theorem vb_none_n (k a b c : Int) (fin : Bool) (ad at' ar : Option Addr) (nd pd nt pt nr pr : Nat) (w : World) (hn : (nin a && nin b && nin c) = false) : Calls Try.prog 39 #[.agg #[.int .i64 k, .int .i64 a, .int .i64 b, .int .i64 c, .bool fin, .slice ad nd pd, .slice at' nt pt, .slice ar nr pr]] w fun e w' => e = .returned .nilIface ∧ Below w.heap.size w w' := by
  have cvn : ∀ wx, _ := fun wx => vnC k a b c fin ad at' ar nd pd nt pt nr pr wx
  have B0 : Below w.heap.size w (w.alloc (.cells #[.int .i64 k, .int .i64 a, .int .i64 b, .int .i64 c, .bool fin, .slice ad nd pd, .slice at' nt pt, .slice ar nr pr] 27)) := (Below.refl _ _).alloc (Nat.le_refl _) _
  have hs0 : w.heap.size < (w.alloc (.cells #[.int .i64 k, .int .i64 a, .int .i64 b, .int .i64 c, .bool fin, .slice ad nd pd, .slice at' nt pt, .slice ar nr pr] 27)).heap.size := by simp
  have hk0 : ∀ j, (w.alloc (.cells #[.int .i64 k, .int .i64 a, .int .i64 b, .int .i64 c, .bool fin, .slice ad nd pd, .slice at' nt pt, .slice ar nr pr] 27)).cell? ⟨w.heap.size, j, none⟩ = (#[.int .i64 k, .int .i64 a, .int .i64 b, .int .i64 c, .bool fin, .slice ad nd pd, .slice at' nt pt, .slice ar nr pr] : Array Value)[j]? := fun j => bk_cell (heap_alloc_new w _) j
  have HH : Hid _ := And.intro B0 (And.intro hs0 hk0)
  clear B0 hs0 hk0
  go_enter Try.func39, Try.ntmps39
  go_wp2_with fail
  go_at_call 43
  refine (cvn _).mono ?_
  rintro e w1 ⟨rfl, b1⟩
  rw [hn]
  go_wp2
  go_ret
  exact ⟨rfl, HH.out.1.trans (b1.mono HH.out.1.size)⟩
theorem fok_none (k a b c : Int) (fin : Bool) (ad at' ar : Option Addr) (nd pd nt pt nr pr : Nat) (w : World) (hk : k ∉ ([0, 1, 2, 4, 5, 6, 7, 8, 16, 17, 18, 20, 21, 22, 24, 25, 26, 27, 28, 29, 30, 48] : List Int)) : Calls Try.prog 25 #[.agg #[.int .i64 k, .int .i64 a, .int .i64 b, .int .i64 c, .bool fin, .slice ad nd pd, .slice at' nt pt, .slice ar nr pr]] w fun e w' => e = .returned (.bool false) ∧ Below w.heap.size w w' := by
  refine fok_n k a b c fin ad at' ar nd pd nt pt nr pr 0 .nilIface w fun wx _ => ?_
  cases hn : (nin a && nin b && nin c)
  · exact vb_none_n k a b c fin ad at' ar nd pd nt pt nr pr wx hn
  · exact vb_none k a b c fin ad at' ar nd pd nt pt nr pr wx hk hn
end Go.Proofs.Ytaodcahkkeobdaa
